/- Texts that several proofs of this seat share, one behind the other: UCount UComp ZPlace XSort XRefB XRefN XTog. -/
import Derived.Test.YtljaibhhkjapmaaDoorPk18
import Derived.Test.YtljaibhhkjapmaaDoorPk10
import Derived.Test.YtljaibhhkjapmaaDoorPk5
import Derived.Test.YtljaibhhkjapmaaDoorPk16
import Derived.Test.YtljaibhhkjapmaaDoorPk17
import Derived.Test.YtljaibhhkjapmaaDoorPk4
import Derived.Sort.OwnSorted
import Derived.Shelf.SlSortCmp.NoneTotal
import Derived.Test.YtljaibhhkjapmaaDoorPk15
import Derived.Test.YtljaibhhkjapmaaDoorPk8
import Derived.StillTailTactics
/- walk.Count, walk.Complete: how many words begin with a text, and the first of them. -/
namespace Go.Proofs.YtljaibhhkjapmaaDoor
open Go.RowKit Go.Shelf
attribute [local go_sem] Oper.semAt_some
set_option linter.unusedSimpArgs false
set_option linter.unusedVariables false

set_option maxRecDepth 100000 in
theorem ucount_nil (s : ByteArray) (w : World) : Calls Tryd.prog 29 #[.pointer none, .string s] w fun e w' => e = .returned (.tuple #[.int .i64 0, .int .i64 1]) ∧ w' = w := by
  have C := Lib.hid (uread_nil s w)
  go_enter Tryd.func29, Tryd.ntmps29
  go_wp2_with fail
  refine C.out.mono ?_
  rintro e w3 ⟨rfl, e3⟩
  obtain rfl := e3.symm
  go_wp2
  go_ret2
  exact ⟨rfl, rfl⟩
/-- How many words begin with a text. -/
def ucN (L : List Wrd) (s : ByteArray) : Int := if uE s.data.toList = 0 then (bgN L s : Int) else 0
set_option maxRecDepth 100000 in
set_option maxHeartbeats 4000000 in
theorem ucount_any (w : World) (d : Nat) (L : List Wrd) (hn : wisS L = 0) (Q : List Rst) (hQ : staQ (rnW L) = Q) (h : DgAt w d Q L) (s : ByteArray) (hO : Okw w) (hs : s.size * 4 ≤ 140737488355328) :
    Calls Tryd.prog 29 #[.pointer (some ⟨d, 0, none⟩), .string s] w fun e w' => e = .returned (.tuple #[.int .i64 (ucN L s), .int .i64 (uE s.data.toList)]) ∧ Below w.heap.size w w' := by
  have cr := uread_any d s w hO hs
  have cb := fun w' (hb : Below w.heap.size w w') => ubegins_any w' d L hn Q hQ (h.below hb) s
  have hle := bgN_le L s
  have hl := (wisS_facts hn).2.2
  obtain ⟨ls, hls⟩ : ∃ z, uS s.data.toList = z := ⟨_, rfl⟩
  rw [hls] at cr
  unfold ucN
  obtain ⟨er, her⟩ : ∃ z, uE s.data.toList = z := ⟨_, rfl⟩
  obtain ⟨f, hf⟩ : ∃ z, bgF L s = z := ⟨_, rfl⟩
  obtain ⟨m, hm⟩ : ∃ z, bgN L s = z := ⟨_, rfl⟩
  rw [her] at cr
  rw [her, hm]
  simp only [hf, hm] at cb
  rw [hf, hm] at hle
  have hsub : IntKind.i64.wrap ((f : Int) + (m : Int) - (f : Int)) = (m : Int) := by rw [IntKind.wrap_i64]; omega
  have hsub2 : wrap64 ((f : Int) + (m : Int) - (f : Int)) = (m : Int) := by unfold wrap64; omega
  have CR := Lib.hid cr; have CB := Lib.hid cb
  clear cr cb hls her hf hm h hO hs hn hQ
  by_cases he : er = 0
  · subst he
    rw [if_pos (by first | rfl | trivial)]
    go_enter Tryd.func29, Tryd.ntmps29
    go_wp2_with fail
    refine CR.out.mono ?_
    rintro e w3 ⟨A, c, rfl, hr, b3⟩
    have HB3 := Lib.hid b3
    clear hr b3
    go_wp2_with fail
    refine (CB.out _ HB3.out).mono ?_
    rintro e w4 ⟨rfl, b4⟩
    have HB4 := Lib.hid (HB3.out.trans (b4.mono HB3.out.size))
    clear b4
    go_wp2
    go_ret2
    exact ⟨rfl, HB4.out⟩
  · rw [if_neg he]
    have h1 : (er == 0) = false := by simpa using he
    have h2 : (er != 0) = true := by simpa using he
    go_enter Tryd.func29, Tryd.ntmps29
    go_wp2_with fail
    refine CR.out.mono ?_
    rintro e w3 ⟨A, c, rfl, hr, b3⟩
    have HB3 := Lib.hid b3
    clear hr b3
    go_wp2
    go_ret2
    exact ⟨rfl, HB3.out⟩

end Go.Proofs.YtljaibhhkjapmaaDoor

/- walk.Complete: the first words that begin with a text. -/
namespace Go.Proofs.YtljaibhhkjapmaaDoor
open Go.RowKit Go.Shelf
attribute [local go_sem] Oper.semAt_some
set_option linter.unusedSimpArgs false
set_option linter.unusedVariables false

/-- Why there are no completions; the completions. -/
def ucpE (s : ByteArray) (k : Int) : Int := if uE s.data.toList = 0 then (if k < 0 ∨ 1000 < k then 2 else 0) else uE s.data.toList
def ucpS (L : List Wrd) (s : ByteArray) (k : Int) : List Wrd := if ucpE s k = 0 then (begL L s).take k.toNat else []
theorem comp_take {L : List Wrd} (hn : wisS L = 0) (s : ByteArray) (k : Nat) : (begL L s).take k = (L.drop (bgF L s)).take (min (bgN L s) k) := by
  rw [begL_is (wisS_facts hn).2.1, List.take_take, Nat.min_comm]
set_option maxRecDepth 100000 in
set_option maxHeartbeats 8000000 in
theorem ucomplete_any (w : World) (d : Nat) (L : List Wrd) (hn : wisS L = 0) (Q : List Rst) (hQ : staQ (rnW L) = Q) (h : DgAt w d Q L) (s : ByteArray) (k : Int) (hO : Okw w) (hs : s.size * 4 ≤ 140737488355328) :
    Calls Tryd.prog 33 #[.pointer (some ⟨d, 0, none⟩), .string s, .int .i64 k] w fun e w' => ∃ v, e = .returned (.tuple #[v, .int .i64 (ucpE s k)]) ∧ WRuns w' v (ucpS L s k) ∧ Below w.heap.size w w' := by
  have cr := uread_any d s w hO hs
  have cb := fun w' (hb : Below w.heap.size w w') => ubegins_any w' d L hn Q hQ (h.below hb) s
  have cw := fun w' (hb : Below w.heap.size w w') (i : Nat) x hx => uword_any w' d L hn Q hQ (h.below hb) i x hx
  have hle := bgN_le L s
  have hl := (wisS_facts hn).2.2
  have hct := comp_take hn s
  obtain ⟨ls, hls⟩ : ∃ z, uS s.data.toList = z := ⟨_, rfl⟩
  rw [hls] at cr
  have hpE : ucpE s k = if uE s.data.toList = 0 then (if k < 0 ∨ 1000 < k then 2 else 0) else uE s.data.toList := rfl
  have hpS : ucpS L s k = if ucpE s k = 0 then (begL L s).take k.toNat else [] := rfl
  obtain ⟨oe, hoe⟩ : ∃ z, ucpE s k = z := ⟨_, rfl⟩
  obtain ⟨os, hos⟩ : ∃ z, ucpS L s k = z := ⟨_, rfl⟩
  obtain ⟨er, her⟩ : ∃ z, uE s.data.toList = z := ⟨_, rfl⟩
  obtain ⟨f, hf⟩ : ∃ z, bgF L s = z := ⟨_, rfl⟩
  obtain ⟨m, hm⟩ : ∃ z, bgN L s = z := ⟨_, rfl⟩
  obtain ⟨N, hN⟩ : ∃ z, L.length = z := ⟨_, rfl⟩
  rw [hoe, her] at hpE
  rw [hos, hoe] at hpS
  rw [her] at cr
  rw [hoe, hos]
  simp only [hf, hm] at cb hct
  rw [hf, hm, hN] at hle
  rw [hN] at hl
  have CR := Lib.hid cr; have CB := Lib.hid cb; have CW := Lib.hid cw; have HPS := Lib.hid hpS; have HN := Lib.hid hN; have HCT := Lib.hid hct
  clear cr cb cw hls her hf hm h hO hs hn hQ hoe hos hpS hN hct
  by_cases he : er = 0
  · subst he
    rw [if_pos (by first | rfl | trivial)] at hpE
    by_cases hk : k < 0 ∨ 1000 < k
    · rw [if_pos hk] at hpE
      subst hpE
      have hS : os = [] := by rw [HPS.out, if_neg (by decide)]
      subst hS
      have hk1 : (decide (k < 0) || decide (1000 < k)) = true := by simpa using hk
      go_enter Tryd.func33, Tryd.ntmps33
      go_wp2_with fail
      refine CR.out.mono ?_
      rintro e w3 ⟨A, c, rfl, hr, b3⟩
      have HB3 := Lib.hid b3
      clear hr b3 hle hl
      by_cases hk2 : k < 0
      · have hk3 : decide (k < 0) = true := decide_eq_true hk2
        go_wp2
        go_ret2
        exact ⟨_, rfl, GRuns.nil_ _ _ _, HB3.out⟩
      · have hk3 : decide (k < 0) = false := decide_eq_false hk2
        have hk5 : 1000 < k := hk.resolve_left hk2
        have hk4 : decide (1000 < k) = true := decide_eq_true hk5
        go_wp2
        go_ret2
        exact ⟨_, rfl, GRuns.nil_ _ _ _, HB3.out⟩
    · rw [if_neg hk] at hpE
      subst hpE
      have hk2 : ¬ k < 0 := fun h => hk (.inl h)
      have hk3 : ¬ 1000 < k := fun h => hk (.inr h)
      obtain ⟨K, rfl⟩ : ∃ K : Nat, k = (K : Int) := ⟨k.toNat, by omega⟩
      obtain ⟨q, hq⟩ : ∃ q, min m K = q := ⟨_, rfl⟩
      have hS : os = (L.drop f).take q := by rw [HPS.out, if_pos (by first | rfl | trivial), Int.toNat_natCast, HCT.out, hq]
      have hqm : q ≤ m ∧ q ≤ K ∧ (q = m ∨ q = K) := by omega
      have HS := Lib.hid hS
      have hk4 : decide ((K : Int) < 0) = false := decide_eq_false hk2
      have hk5 : decide (1000 < (K : Int)) = false := decide_eq_false hk3
      obtain ⟨t, ht⟩ : ∃ t, f + q = t := ⟨_, rfl⟩
      obtain ⟨tm, htm⟩ : ∃ z : Int, (f : Int) + (m : Int) = z := ⟨_, rfl⟩
      obtain ⟨tk, htk⟩ : ∃ z : Int, (f : Int) + (K : Int) = z := ⟨_, rfl⟩
      have hmn : min tm tk = (t : Int) := by omega
      have hadd : IntKind.i64.wrap ((f : Int) + (K : Int)) = tk := by rw [IntKind.wrap_i64]; omega
      have hadd2 : wrap64 ((f : Int) + (K : Int)) = tk := by unfold wrap64; omega
      have hft : f ≤ t ∧ t ≤ N ∧ t - f = q := by omega
      have ht6 : t ≤ 65536 := by omega
      simp only [htm] at CB
      have HFT := Lib.hid hft
      clear hq hS hk hft hqm ht hle htm htk
      go_enter Tryd.func33, Tryd.ntmps33
      go_wp2_with fail
      refine CR.out.mono ?_
      rintro e w3 ⟨A, c, rfl, hr, b3⟩
      have HB3 := Lib.hid b3
      clear hr b3
      go_wp2_with fail
      refine (CB.out _ HB3.out).mono ?_
      rintro e w4 ⟨rfl, b4⟩
      have HB4 := Lib.hid (HB3.out.trans (b4.mono HB3.out.size))
      clear b4
      go_wp2
      go_loopw [12, 13] (fun s12 s13 wr => ∃ (j i : Nat) (vo : Value), s12 = vo ∧ s13 = .int .i64 (i : Int) ∧ Hid (i = f + j) ∧ i ≤ t ∧ Hid (wr.ownsRow w.heap.size 72 2 vo j (gCells wrdCell ((L.drop f).take j))) ∧ Hid (Below w.heap.size w wr)) (fun _ s13 _ => t - (RowKit.intOf s13).toNat)
      case atStart => exact ⟨0, f, _, rfl, rfl, Lib.hid rfl, HFT.out.1, Lib.hid (by rw [List.take_zero]; exact World.ownsRow_nil _ _ _ _), HB4⟩
      case round =>
        obtain ⟨j, i, vo, rfl, rfl, HIJ, hit, HR, HB⟩ := hrel
        by_cases hj : i < t
        · obtain ⟨⟨y1, y2⟩, hy⟩ : ∃ y, L[i]? = some y := ⟨_, List.getElem?_eq_getElem (by rw [HN.out]; have := HFT.out; omega)⟩
          have cw := CW.out wr HB.out i _ hy
          have i1 : (i : Int) < (t : Int) := by omega
          have htk : (L.drop f).take (j + 1) = (L.drop f).take j ++ [(y1, y2)] := by
            rw [List.take_add_one, List.getElem?_drop, ← HIJ.out, hy]; rfl
          simp only at cw
          have hj6 : j ≤ 2000000 := by have := HIJ.out; have := HFT.out; omega
          have HI1 : Hid (i + 1 = f + (j + 1)) := Lib.hid (by have := HIJ.out; omega)
          have CW2 := Lib.hid cw; have HTK := Lib.hid htk
          clear cw htk hy
          go_wp2_with fail
          refine CW2.out.mono ?_
          rintro e w5 ⟨rfl, b5⟩
          have hb5 := HB.out.trans (b5.mono HB.out.size)
          obtain ⟨v9, w9, hrun, hown9, hb9⟩ := append_wrd w5 w.heap.size _ j _ (own_below HR.out b5) (y1, y2) hb5.size hj6
          rw [← HTK.out] at hown9
          have HOWN := Lib.hid hown9; have HB9 := Lib.hid (hb5.trans hb9); have HRUN := Lib.hid hrun
          clear hown9 hb9 hrun b5 hb5
          go_wp2_with (first
            | (at_builtin; refine wpList_append_run (.tmp 45) (.tmp 49) 22 _ _ _ _ HRUN.out rfl rfl rfl rfl ?_))
          exact ⟨⟨j + 1, i + 1, _, rfl, by go_num, HI1, by omega, HOWN, HB9⟩, by simp [RowKit.intOf]; omega⟩
        · have hti : i = t := by omega
          have hjq : j = q := by have := HIJ.out; have := HFT.out; omega
          have i1 : ¬ (i : Int) < (t : Int) := by omega
          subst hjq
          have hfin := GRuns.of_own wrd_ln (by rw [List.length_take, List.length_drop, HN.out]; have := HFT.out; omega) HR.out
          rw [← HS.out] at hfin
          have HF := Lib.hid hfin
          clear hfin
          go_wp2
          go_ret2
          exact ⟨_, rfl, HF.out, HB.out⟩
  · rw [if_neg he] at hpE
    subst hpE
    have hS : os = [] := by rw [HPS.out, if_neg he]
    subst hS
    have h1 : (oe == 0) = false := by simpa using he
    have h2 : (oe != 0) = true := by simpa using he
    go_enter Tryd.func33, Tryd.ntmps33
    go_wp2_with fail
    refine CR.out.mono ?_
    rintro e w3 ⟨A, c, rfl, hr, b3⟩
    have HB3 := Lib.hid b3
    clear hr b3
    go_wp2
    go_ret2
    exact ⟨_, rfl, GRuns.nil_ _ _ _, HB3.out⟩
end Go.Proofs.YtljaibhhkjapmaaDoor

/- Dawg.Place: where a word stands among all. -/
namespace Go.Proofs.YtljaibhhkjapmaaDoor
open Go.RowKit Go.Shelf Go.Lib
attribute [local go_sem] Oper.semAt_some
set_option linter.unusedSimpArgs false
set_option linter.unusedVariables false

/-- Is a text a token that is a word? -/
def isW (W : Rst) (s : List UInt8) : Prop := tokErr s = 0 ∧ items s ∈ W
instance (W : Rst) (s : List UInt8) : Decidable (isW W s) := by unfold isW; infer_instance
def plcE (W : Rst) (s : List UInt8) : Int := if isW W s then 0 else 10
def plcV (W : Rst) (s : List UInt8) : Nat := if isW W s then ahdP W (items s) else 0
theorem tok_le64 (s : List UInt8) : (tokRunes s).length ≤ 64 := by
  unfold tokRunes
  split
  · rename_i h
    unfold tokErr at h
    split at h
    · split at h
      · cases h
      · split at h
        · cases h
        · omega
    · cases h
  · exact Nat.zero_le _
theorem z_w64 (a : Nat) (h : a ≤ 65536) : wrap64 (a : Int) = (a : Int) := by unfold wrap64; omega
theorem z_wrap32 (a b c : Nat) (h : a + b = c) (hc : c ≤ 65536) : IntKind.i32.wrap ((a : Int) + (b : Int)) = (c : Int) := by rw [IntKind.wrap_i32]; omega
theorem z_runs_set3 {w : World} {A : Option Addr} {n c : Nat} {l : List Int} {B : Nat} (h : Runs w (.slice A n c) l) (hn : l.length = n) (ha : ∃ b o, n = 0 ∨ (A = some ⟨b, o, none⟩ ∧ b < B)) (x y z : Value) : Runs (((w.setCell ⟨B, 0, none⟩ x).setCell ⟨B, 1, none⟩ y).setCell ⟨B, 2, none⟩ z) (.slice A n c) l := by
  obtain ⟨A', c', e, hc, hm, hx⟩ := h
  refine ⟨A', c', e, hc, hm, fun h0 => ?_⟩
  obtain ⟨b, o, e2, hlt, hcc⟩ := hx h0
  rw [hn] at e h0
  obtain ⟨rfl, _, rfl⟩ := Value.slice.inj e
  obtain ⟨b', o', ha⟩ := ha
  rcases ha with ha | ⟨ha, hb⟩
  · omega
  · rw [e2] at ha
    simp only [Option.some.injEq, Addr.mk.injEq] at ha
    obtain ⟨rfl, rfl, _⟩ := ha
    have hne : b ≠ B := by omega
    exact ⟨b, o, e2, by simpa using hlt, fun j hj => (z_cell_set_ne _ _ _ _ _ _ hne).trans ((z_cell_set_ne _ _ _ _ _ _ hne).trans ((z_cell_set_ne _ _ _ _ _ _ hne).trans (hcc j hj)))⟩
theorem place_not {W : Rst} {l : List Int} {j : Nat} {r : Int} (hr : l[j]? = some r) (h : r ∉ hdsR (behP W (l.take j))) : l ∉ W := fun hm => by
  refine h (mem_hdsR.2 ⟨l.drop (j + 1), mem_behP.2 ?_⟩)
  have : l.take j ++ r :: l.drop (j + 1) = l := by
    conv => rhs; rw [← List.take_append_drop j l]
    rw [List.drop_eq_getElem_cons (List.getElem?_eq_some_iff.1 hr).1, (List.getElem?_eq_some_iff.1 hr).2]
  rw [this]; exact hm
theorem place_ends {W : Rst} {l : List Int} : [] ∈ behP W l ↔ l ∈ W := by
  rw [mem_behP, List.append_nil]

end Go.Proofs.YtljaibhhkjapmaaDoor

/- slices.Clone and slices.SortFunc over words: a copy of the call's own, sorted by the library. -/
namespace Go.Proofs.YtljaibhhkjapmaaDoor
open Go.RowKit Go.Shelf Go.Lib
open Go.Sort (grow heap_grow_old putRow mapBlock onCells SWO PermIn SortedIn HoldsK flatK get_flatK size_flatK)
set_option linter.unusedSimpArgs false
set_option linter.unusedVariables false

end Go.Proofs.YtljaibhhkjapmaaDoor

/- errataref09.Best: the most frequent words. -/
namespace Go.Proofs.YtljaibhhkjapmaaDoor
open Go.RowKit Go.Shelf
set_option linter.unusedSimpArgs false
set_option linter.unusedVariables false

theorem gCells_set2 (g : List Wrd) (k : Nat) (x : Wrd) (h : k < g.length) : ((gCells wrdCell g).set (k * 2) (.string x.1)).set (k * 2 + 1) (.int .i64 x.2) = gCells wrdCell (g.set k x) := by
  induction g generalizing k with
  | nil => simp at h
  | cons a g ih =>
    cases k with
    | zero => rfl
    | succ k =>
      have := ih k (by simpa using h)
      show ((wrdCell a ++ gCells wrdCell g).set ((k + 1) * 2) _).set ((k + 1) * 2 + 1) _ = wrdCell a ++ gCells wrdCell (g.set k x)
      rw [← this, show (k + 1) * 2 + 1 = (k * 2 + 1) + 2 by omega, show (k + 1) * 2 = (k * 2) + 2 by omega]
      rfl
/-- A word stored into a row of the call's own. -/
theorem own_word {w : World} {base g cap n : Nat} {L : List Wrd} (h : w.ownsRow base 72 2 (.slice (some ⟨g, 0, none⟩) n cap) n (gCells wrdCell L)) (hn : L.length = n) (j : Nat) (hj : j < n) (x : Wrd) :
    ((w.setCell ⟨g, j * 2, none⟩ (.string x.1)).setCell ⟨g, j * 2 + 1, none⟩ (.int .i64 x.2)).ownsRow base 72 2 (.slice (some ⟨g, 0, none⟩) n cap) n (gCells wrdCell (L.set j x)) := by
  have h1 := own_store (own_store h (j * 2) (by omega) (.string x.1)) (j * 2 + 1) (by omega) (.int .i64 x.2)
  rwa [gCells_set2 L j x (by omega)] at h1
theorem xcell_ne (w : World) (g j : Nat) (u : Value) (b o : Nat) (h : b ≠ g) : (w.setCell ⟨g, j, none⟩ u).cell? ⟨b, o, none⟩ = w.cell? ⟨b, o, none⟩ := World.cell?_of_block (Below.heap_setCell _ _ _ b h)
theorem own_base {w : World} {base : Nat} {e : TypeId} {size g cap n m : Nat} {xs : List Value} (h : w.ownsRow base e size (.slice (some ⟨g, 0, none⟩) n cap) m xs) : base ≤ g := by
  rcases h.2 with ⟨e, _⟩ | ⟨g', cap, cur, e, hb, _⟩
  · cases e
  · simp only [Value.slice.injEq, Option.some.injEq, Addr.mk.injEq] at e
    obtain ⟨⟨rfl, _⟩, _⟩ := e
    exact hb

end Go.Proofs.YtljaibhhkjapmaaDoor

/- errataref09.Normal: words, each once, in order. -/
namespace Go.Proofs.YtljaibhhkjapmaaDoor
open Go.RowKit Go.Shelf
set_option linter.unusedSimpArgs false
set_option linter.unusedVariables false

theorem insW_at (b : Wrd) (out : List Wrd) (k : Nat) (h1 : ∀ j y, j < k → out[j]? = some y → ltK y.1 b.1 = true) (h2 : k ≤ out.length) (h3 : ∀ y, out[k]? = some y → ltK y.1 b.1 = false) :
    (∀ x, out[k]? = some x → x.1 = b.1 → insW b out = out.set k (x.1, min 1073741824 (x.2 + b.2))) ∧ ((∀ x, out[k]? = some x → x.1 ≠ b.1) → insW b out = out.take k ++ [b] ++ out.drop k) := by
  induction out generalizing k with
  | nil =>
    obtain rfl : k = 0 := by simpa using h2
    refine ⟨fun x hx => by simp at hx, fun _ => by simp [insW]⟩
  | cons a out ih =>
    cases k with
    | zero =>
      have ha := h3 a (by simp)
      have ha' : ¬ ltK a.1 b.1 = true := by rw [ha]; simp
      refine ⟨fun x hx hs => ?_, fun hn => ?_⟩
      · obtain rfl : a = x := by simpa using hx
        rw [insW, if_neg ha', if_pos hs]; rfl
      · rw [insW, if_neg ha', if_neg (hn a (by simp))]; rfl
    | succ k =>
      have ha := h1 0 a (by omega) (by simp)
      obtain ⟨i1, i2⟩ := ih k (fun j y hj hy => h1 (j + 1) y (by omega) (by simpa using hy)) (by simpa using h2) (fun y hy => h3 y (by simpa using hy))
      refine ⟨fun x hx hs => ?_, fun hn => ?_⟩
      · rw [insW, if_pos ha, i1 x (by simpa using hx) hs]; rfl
      · rw [insW, if_pos ha, i2 (fun x hx => hn x (by simpa using hx))]; simp
/-- A Freq stored. -/
theorem gCells_setW (g : List Wrd) (k : Nat) (y : Wrd) (z : Int) (hy : g[k]? = some y) : (gCells wrdCell g).set (k * 2 + 1) (.int .i64 z) = gCells wrdCell (g.set k (y.1, z)) := by
  induction g generalizing k with
  | nil => simp at hy
  | cons a g ih =>
    cases k with
    | zero =>
      obtain rfl : a = y := by simpa using hy
      rfl
    | succ k =>
      have := ih k (by simpa using hy)
      show (wrdCell a ++ gCells wrdCell g).set ((k + 1) * 2 + 1) _ = wrdCell a ++ gCells wrdCell (g.set k _)
      rw [← this, show (k + 1) * 2 + 1 = (k * 2 + 1) + 2 by omega]
      rfl
/-- The ways in which two literals come to lie. -/
theorem xlay_1 (D : World) (b : Nat) (hb : b ≤ D.heap.size) (x : Wrd) : ((D.alloc (.cells #[] 72)).alloc (.cells #[.string x.1, .int .i64 x.2] 72)).ownsRow b 72 2 (.slice (some ⟨D.heap.size, 0, none⟩) 0 0) 0 [] ∧
    WRuns ((D.alloc (.cells #[] 72)).alloc (.cells #[.string x.1, .int .i64 x.2] 72)) (.slice (some ⟨D.heap.size + 1, 0, none⟩) 1 1) [x] := by
  have h := wrd_litR (D.alloc (.cells #[] 72)) x
  rw [World.size_alloc] at h
  exact ⟨(own_litW D b hb).alloc _, h⟩
theorem xlay_2 (D : World) (b : Nat) (hb : b ≤ D.heap.size) (x : Wrd) : ((D.alloc (.cells #[.string x.1, .int .i64 x.2] 72)).alloc (.cells #[] 72)).ownsRow b 72 2 (.slice (some ⟨D.heap.size + 1, 0, none⟩) 0 0) 0 [] ∧
    WRuns ((D.alloc (.cells #[.string x.1, .int .i64 x.2] 72)).alloc (.cells #[] 72)) (.slice (some ⟨D.heap.size, 0, none⟩) 1 1) [x] := by
  have h := own_litW (D.alloc (.cells #[.string x.1, .int .i64 x.2] 72)) b (by simp; omega)
  rw [World.size_alloc] at h
  exact ⟨h, (wrd_litR D x).below ((Below.refl _ _).alloc (Nat.le_refl _) _)⟩
/-- What is known behind the first append, the second, the third. -/
structure XpK (w D : World) (t : List Wrd) (v : Value) (W' : World) : Prop where
  own : W'.ownsRow w.heap.size 72 2 v t.length (gCells wrdCell t)
  bel : Below D.heap.size D W'
  at_ : ∀ b, v.ownBlock = some b → D.heap.size ≤ b
/-- One append more, told in one word. -/
theorem XpK.next {w D W W' : World} {t ys : List Wrd} {v v' : Value} {n : Nat} {xs : List Value} (hn : n = t.length) (hxs : xs = gCells wrdCell t) (hD : w.heap.size ≤ D.heap.size) (hbW : Below D.heap.size D W) (hv : ∀ b, v.ownBlock = some b → D.heap.size ≤ b)
    (h1 : W'.ownsRow w.heap.size 72 2 v' (n + ys.length) (xs ++ gCells wrdCell ys)) (h2 : W.grownBy W' v.ownBlock) (h3 : v'.ownBlock = v.ownBlock ∨ v'.ownBlock = some W.heap.size) : XpK w D (t ++ ys) v' W' := by
  subst hn hxs
  refine ⟨by rw [List.length_append, gCells_append]; exact h1, hbW.grown h2 hbW.size (fun b hb => hv b hb), fun b hb => ?_⟩
  rcases h3 with e | e
  · rw [e] at hb; exact hv b hb
  · rw [e] at hb
    have := hbW.size
    obtain rfl : W.heap.size = b := by simpa using hb
    exact this

set_option maxRecDepth 100000 in
set_option maxHeartbeats 16000000 in
theorem refNormal9_any (u : Value) (l : List Wrd) (w : World) (hu : WRuns w u l) (hl : l.length ≤ 2000000) (hz : szW l) :
    Calls Tryd.prog 52 #[u] w fun e w' => ∃ v, e = .returned (.tuple #[v, .int .i64 (worE l)]) ∧ WRuns w' v (worS l) ∧ Below w.heap.size w w' := by
  obtain ⟨A, c, e⟩ := hu.slice
  subst e
  have ca := refAll9_any (.slice A l.length c) l w hu hl hz
  have HU := Lib.hid hu; clear hu
  have hE : worE l = if wall l = 0 then (if 65536 < (nrmW l).length then 6 else 0) else wall l := rfl
  have hS : worS l = if worE l = 0 then nrmW l else [] := rfl
  have hfin : nrmW l = nrmW (l.take l.length) := by rw [List.take_length]
  rw [hfin] at hE hS
  clear hfin
  have hfb : wall l = 0 → ∀ k, frB (nrmW (l.take k)) ∧ ∀ x, l[k]? = some x → 1 ≤ x.2 ∧ x.2 ≤ 1073741824 := fun h k => ⟨nrmW_frB (fun z hz => frB_of h z (List.mem_of_mem_take hz)), fun x hx => frB_of h x (List.mem_of_getElem? hx)⟩
  obtain ⟨n, hn⟩ : ∃ n, l.length = n := ⟨_, rfl⟩
  rw [hn] at hl HU ca hE hS ⊢
  have HN := Lib.hid hn; clear hn hz
  obtain ⟨G, hG⟩ : ∃ f, f = fun k => nrmW (l.take k) := ⟨_, rfl⟩
  have gst : ∀ k x, l[k]? = some x → G (k + 1) = insW x (G k) := fun k x hx => by rw [hG]; exact nrmW_take k x hx
  have gln : ∀ k, k ≤ n → (G k).length ≤ k := fun k hk => by
    rw [hG]; have := nrmW_len (l.take k); rw [List.length_take] at this; simp only; omega
  have g0 : G 0 = [] := by rw [hG]; rfl
  have hgo : nrmW (l.take n) = G n := by rw [hG]
  have hfb' : wall l = 0 → ∀ k, frB (G k) ∧ ∀ x, l[k]? = some x → 1 ≤ x.2 ∧ x.2 ≤ 1073741824 := by rw [hG]; exact hfb
  rw [hgo] at hE hS
  clear hgo hG hfb
  obtain ⟨ra, hra⟩ : ∃ z, wall l = z := ⟨_, rfl⟩
  obtain ⟨er, her⟩ : ∃ z, worE l = z := ⟨_, rfl⟩
  obtain ⟨Y, hY⟩ : ∃ z, worS l = z := ⟨_, rfl⟩
  rw [her] at hE hS ⊢
  rw [hY] at hS ⊢
  rw [hra] at hE ca hfb'
  have GST := Lib.hid gst; have GLN := Lib.hid gln; have HE := Lib.hid hE; have HS := Lib.hid hS; have CA := Lib.hid ca; have HFB := Lib.hid hfb'
  clear gst gln hE hS ca hra her hY hfb'
  go_enter Tryd.func52, Tryd.ntmps52
  go_wp2_with fail
  refine CA.out.mono ?_
  rintro e w1 ⟨rfl, b1⟩
  have B1 := Lib.hid b1; clear b1
  by_cases h00 : ra = 0
  rotate_left
  · have h00' : (ra == 0) = false := by simpa using h00
    have hEr : er = ra := by rw [HE.out, if_neg h00]
    subst hEr
    have hYs : Hid (Y = []) := Lib.hid (by rw [HS.out, if_neg h00])
    go_wp2
    go_ret2
    exact ⟨_, rfl, by rw [hYs.out]; exact GRuns.nil_ _ _ _, B1.out⟩
  subst h00
  have HFB' := Lib.hid (HFB.out (by first | rfl | trivial))
  clear HFB
  go_wp2
  go_loopw [5, 16] (fun s3 s9 wr => ∃ k : Nat, k ≤ n ∧ s9 = .int .i64 k ∧ Hid (wr.ownsRow w.heap.size 72 2 s3 (G k).length (gCells wrdCell (G k))) ∧ Hid (Below w.heap.size w wr)) (fun _ s9 _ => n - (RowKit.intOf s9).toNat)
  case atStart => exact ⟨0, Nat.zero_le _, rfl, Lib.hid (by rw [g0]; exact World.ownsRow_nil _ _ _ _), B1⟩
  case round =>
    obtain ⟨k, hkn, rfl, HO, BW⟩ := hrel
    by_cases hk : k < n
    · have k1 : (k : Int) < (n : Int) := by omega
      obtain ⟨⟨p1, p2⟩, hp⟩ : ∃ p, l[k]? = some p := ⟨_, List.getElem?_eq_getElem (by rw [HN.out]; exact hk)⟩
      obtain ⟨b, o, rfl, hblt, hc⟩ := (HU.out.below BW.out).cells HN.out (by omega)
      obtain ⟨e0, e1⟩ := wrd_cells hc hp
      simp only at e0 e1
      have hg1 := GST.out k _ hp
      have hgl := GLN.out k hkn
      obtain ⟨hfg, hfp⟩ := HFB'.out k
      have hfp' := hfp _ hp
      simp only at hfp'
      obtain ⟨g, hg⟩ : ∃ g, G k = g := ⟨_, rfl⟩
      rw [hg] at HO hg1 hgl hfg
      have HG1 := Lib.hid hg1; have HFG := Lib.hid hfg; have HFP := Lib.hid hfp'
      clear hg hg1 hc hp hfg hfp hfp'
      obtain ⟨m, hm⟩ : ∃ m, g.length = m := ⟨_, rfl⟩
      rw [hm] at HO hgl
      have HM := Lib.hid hm; clear hm
      have GR := Lib.hid (GRuns.of_own wrd_ln HM.out HO.out)
      obtain ⟨A', c', hv⟩ := GR.out.slice
      rw [HM.out] at hv
      subst hv
      have hal : Below wr.heap.size wr (wr.alloc (.cells #[.string p1, .int .i64 p2] 72)) := (Below.refl _ _).alloc (Nat.le_refl _) _
      obtain ⟨wa, hwa⟩ : ∃ z, wr.alloc (.cells #[.string p1, .int .i64 p2] 72) = z := ⟨_, rfl⟩
      have e3 : wa.heap[wr.heap.size]? = some (.cells #[.string p1, .int .i64 p2] 72 (0, 0)) := by rw [← hwa]; exact heap_alloc_new wr _
      rw [hwa] at hal
      have HWA := Lib.hid hwa; clear hwa
      have E3 := Lib.hid e3; clear e3
      have BA : Hid (Below w.heap.size w wa) := Lib.hid (BW.out.trans (hal.mono BW.out.size))
      have OA := Lib.hid (own_below HO.out hal)
      have LTA : wr.heap.size < wa.heap.size := (Array.getElem?_eq_some_iff.1 E3.out).1
      have SZ : w.heap.size ≤ wr.heap.size := BW.out.size
      obtain ⟨bx, hbx⟩ : ∃ z, wr.heap.size = z := ⟨_, rfl⟩
      rw [hbx] at E3 LTA SZ
      have HBX := Lib.hid hbx
      clear hal HO GR hbx
      go_wp2
      rw [HWA.out, HBX.out]
      clear HWA e0 e1
      go_loopw [8] (fun s6 wr' => ∃ q : Nat, q ≤ m ∧ s6 = .int .i64 q ∧ Hid (∀ j y, j < q → g[j]? = some y → ltK y.1 p1 = true) ∧ Hid (Below wa.heap.size wa wr')) (fun s6 _ => m - (RowKit.intOf s6).toNat)
      case atStart => exact ⟨0, Nat.zero_le _, rfl, Lib.hid (fun j y hj => by omega), Lib.hid (Below.refl _ _)⟩
      case round =>
        obtain ⟨q, hqm, rfl, HB, BQ⟩ := hrel
        have OQ := Lib.hid (own_below OA.out BQ.out)
        have B4 : Hid (Below w.heap.size w wr) := Lib.hid (BA.out.trans (BQ.out.mono BA.out.size))
        have EQ3 : Hid (wr.heap[bx]? = some (.cells #[.string p1, .int .i64 p2] 72 (0, 0))) := Lib.hid ((BQ.out.block _ LTA).trans E3.out)
        have LTQ : bx < wr.heap.size := Nat.lt_of_lt_of_le LTA BQ.out.size
        have f3 : wr.cell? ⟨bx, 0, none⟩ = some (.string p1) := by simp [World.cell?, EQ3.out]
        have f4 : wr.cell? ⟨bx, 1, none⟩ = some (.int .i64 p2) := by simp [World.cell?, EQ3.out]
        by_cases hq : q < m
        · have q1 : (q : Int) < (m : Int) := by omega
          obtain ⟨gb, rfl⟩ : ∃ gb, A' = some ⟨gb, 0, none⟩ := by
            rcases OQ.out.2 with ⟨e, h0⟩ | ⟨gb, cap, cur, e, _⟩
            · obtain ⟨_, e2, _⟩ := Value.slice.inj e
              omega
            · exact ⟨gb, (Value.slice.inj e).1⟩
          have GQ := GRuns.of_own wrd_ln HM.out OQ.out
          obtain ⟨⟨y1, y2⟩, hy⟩ : ∃ y, g[q]? = some y := ⟨_, List.getElem?_eq_getElem (by rw [HM.out]; exact hq)⟩
          obtain ⟨b', o', eb, hgl', hc'⟩ := GQ.cells HM.out (by omega)
          have eb1 := Option.some.inj eb
          simp only [Addr.mk.injEq] at eb1
          obtain ⟨rfl, rfl, _⟩ := eb1
          obtain ⟨f0, f1⟩ := wrd_cells hc' hy
          simp only [Nat.zero_add] at f0 f1
          obtain ⟨le, hle⟩ : ∃ z, ltK y1 p1 = z := ⟨_, rfl⟩
          have HLE := Lib.hid hle; have HY := Lib.hid hy
          unfold ltK at hle
          have hfy := HFG.out _ (List.mem_of_getElem? hy)
          simp only at hfy
          have HFY := Lib.hid hfy
          clear hy hc' GQ eb hfy
          cases le
          · have hins := insW_at (p1, p2) g q HB.out (by rw [HM.out]; exact hqm) (fun y hy => by
              rw [HY.out] at hy
              obtain rfl := Option.some.inj hy
              exact HLE.out)
            have HINS := Lib.hid hins; clear hins
            clear BQ EQ3
            by_cases hsm : y1 = p1
            · subst hsm
              have hnew : Hid (G (k + 1) = g.set q (y1, min 1073741824 (y2 + p2))) := Lib.hid (by rw [HG1.out]; exact HINS.out.1 _ HY.out rfl)
              clear HINS
              have hwp : IntKind.i64.wrap (y2 + p2) = y2 + p2 := by
                have := HFY.out; have := HFP.out
                rw [IntKind.wrap_i64]; omega
              go_wp2
              go_quiet (fail)
              revert nq
              intro nqa
              go_wp2
              go_quiet (fail)
              revert nq
              intro nqb
              go_wp2
              obtain ⟨w5, hw5⟩ : ∃ w5, w5 = (wr.drewN nqa).drewN nqb := ⟨_, rfl⟩
              have h45 : Below wr.heap.size wr w5 := by rw [hw5]; exact below_draws (below_draws (Below.refl _ _) _) _
              have O5 := Lib.hid (own_below OQ.out h45)
              have B5 : Hid (Below w.heap.size w w5) := Lib.hid (B4.out.trans (h45.mono B4.out.size))
              have x2 : w5.cell? ⟨gb, q * 2 + 1, none⟩ = some (.int .i64 y2) := by rw [hw5]; exact f1
              have x5 : w5.cell? ⟨bx, 1, none⟩ = some (.int .i64 p2) := by rw [hw5]; exact f4
              rw [← hw5]
              clear hw5 h45 f0 f1 f3 f4 OQ B4
              go_still_tail 11, (by kernel_rfl)
              change wpList _ _ _ _ _ w5.drew
              obtain ⟨w6, hw6⟩ : ∃ w6, w6 = w5.drew := ⟨_, rfl⟩
              have O6 : Hid (w6.ownsRow w.heap.size 72 2 (.slice (some ⟨gb, 0, none⟩) m c') m (gCells wrdCell g)) := Lib.hid (by rw [hw6]; exact O5.out)
              have B6 : Hid (Below w.heap.size w w6) := Lib.hid (by rw [hw6]; exact B5.out.drew)
              have z2 : w6.cell? ⟨gb, q * 2 + 1, none⟩ = some (.int .i64 y2) := by rw [hw6]; exact x2
              rw [← hw6]
              clear hw6 x2 x5 O5 B5
              have z3 := own_thaw O6.out (q * 2 + 1)
              have hgb : w.heap.size ≤ gb := by
                rcases O6.out.2 with ⟨e, _⟩ | ⟨g', cap, cur, e, hb, _⟩
                · cases e
                · simp only [Value.slice.injEq, Option.some.injEq, Addr.mk.injEq] at e
                  obtain ⟨⟨rfl, _⟩, _⟩ := e
                  exact hb
              have hend : Hid ((w6.setCell ⟨gb, q * 2 + 1, none⟩ (.int .i64 (min 1073741824 (y2 + p2)))).ownsRow w.heap.size 72 2 (.slice (some ⟨gb, 0, none⟩) m c') (G (k + 1)).length (gCells wrdCell (G (k + 1))) ∧ Below w.heap.size w (w6.setCell ⟨gb, q * 2 + 1, none⟩ (.int .i64 (min 1073741824 (y2 + p2))))) := Lib.hid ⟨by
                have h1 := own_store O6.out (q * 2 + 1) (by omega) (.int .i64 (min 1073741824 (y2 + p2)))
                rw [gCells_setW g q (y1, y2) (min 1073741824 (y2 + p2)) HY.out] at h1
                rw [hnew.out, List.length_set, HM.out]
                exact h1, B6.out.setCell hgb _⟩
              go_wp2
              exact ⟨⟨k + 1, by omega, by go_num, Lib.hid hend.out.1, Lib.hid hend.out.2⟩, by simp [RowKit.intOf]; omega⟩
            · have hnew : Hid (G (k + 1) = g.take q ++ [(p1, p2)] ++ g.drop q) := Lib.hid (by
                rw [HG1.out]
                exact HINS.out.2 (fun x hx => by rw [HY.out] at hx; obtain rfl := Option.some.inj hx; exact hsm))
              clear HINS
              have h1 : (y1.toList == p1.toList) = false := by
                rw [beq_eq_false_iff_ne]
                exact fun h => hsm (key_ext (by rw [← Lib.toList_data, ← Lib.toList_data]; exact h))
              clear hsm
              obtain ⟨hmc, hcm⟩ : m ≤ c' ∧ c' ≤ maxLen := by
                rcases OQ.out.2 with ⟨e, _⟩ | ⟨g', cap, cur, e, _, _, h1, h2, _⟩
                · cases e
                · obtain ⟨_, _, rfl⟩ := Value.slice.inj e
                  exact ⟨h1, h2⟩
              unfold maxLen at hcm
              have gR := GRuns.of_own wrd_ln HM.out OQ.out
              have gX1 := Lib.hid (gr_front gR HM.out q (by omega))
              have gX2 := Lib.hid (gr_back gR HM.out q (by omega))
              clear gR OQ
              have r1 : (q : Int) ≤ (c' : Int) := by omega
              have r2 : (m : Int) ≤ (c' : Int) := by omega
              have r3 : (q : Int) ≤ (m : Int) := by omega
              have r4 : ¬ c' = q := by omega
              go_wp2
              go_quiet (fail)
              revert nq
              intro nqa
              go_wp2
              go_quiet (fail)
              revert nq
              intro nqb
              go_wp2
              obtain ⟨w5, hw5⟩ : ∃ w5, w5 = (wr.drewN nqa).drewN nqb := ⟨_, rfl⟩
              have h4D : Below wr.heap.size wr w5.drew := by rw [hw5]; exact (below_draws (below_draws (Below.refl _ _) _) _).drew
              have X1 := Lib.hid (gX1.out.below h4D)
              have X2 := Lib.hid (gX2.out.below h4D)
              have BD : Hid (Below w.heap.size w w5.drew) := Lib.hid (B4.out.trans (h4D.mono B4.out.size))
              have SD : w.heap.size ≤ w5.drew.heap.size := BD.out.size
              have LB : bx < w5.drew.heap.size := Nat.lt_of_lt_of_le LTQ h4D.size
              have x3 : w5.drew.cell? ⟨bx, 0, none⟩ = some (.string p1) := by rw [hw5]; exact f3
              have x4 : w5.drew.cell? ⟨bx, 1, none⟩ = some (.int .i64 p2) := by rw [hw5]; exact f4
              rw [← hw5]
              clear hw5 h4D gX1 gX2 f0 f1 f3 f4 B4 h1
              have CE : Hid (∀ W, Below w5.drew.heap.size w5.drew W → W.cell? ⟨bx, 0, none⟩ = some (.string p1) ∧ W.cell? ⟨bx, 1, none⟩ = some (.int .i64 p2)) := Lib.hid (fun W hb => ⟨(hb.cell (p := ⟨bx, 0, none⟩) LB).trans x3, (hb.cell (p := ⟨bx, 1, none⟩) LB).trans x4⟩)
              obtain ⟨a3, a4⟩ := CE.out _ (bel_one w5.drew (.cells #[] 72))
              have b3 : (w5.alloc (.cells #[] 72)).cell? ⟨bx, 0, none⟩ = some (.string p1) := a3
              have b4 : (w5.alloc (.cells #[] 72)).cell? ⟨bx, 1, none⟩ = some (.int .i64 p2) := a4
              have d3 : (w5.alloc (.cells #[] 72)).drew.cell? ⟨bx, 0, none⟩ = some (.string p1) := a3
              have d4 : (w5.alloc (.cells #[] 72)).drew.cell? ⟨bx, 1, none⟩ = some (.int .i64 p2) := a4
              have hmix : Tryd.prog.follows .mixedOrders = true := by kernel_rfl
              have tq : (g.take q).length = q := by rw [List.length_take, HM.out]; omega
              have dq : (g.drop q).length = m - q := by rw [List.length_drop, HM.out]
              have HTQ := Lib.hid tq; have HDQ := Lib.hid dq; clear tq dq
              have SD5 : w.heap.size ≤ w5.heap.size := SD
              go_region_law (first
                | (refine xstep_words rfl (.tmp 63) (.tmp 66) w.heap.size 0 [] (g.take q) (by first | exact own_litW _ _ SD | exact (xlay_1 _ _ SD (p1, p2)).1 | exact (xlay_2 _ _ SD (p1, p2)).1) (by first | exact X1.out.below (bel_one _ _) | exact X1.out.below (bel_two _ _ _)) rfl rfl (by go_simp) (by go_simp) (by simp <;> omega) (by rw [HTQ.out]; omega) ?_; intro v65 w65 h65 k65 j65; have K65 : Hid (XpK w w5.drew (g.take q) v65 w65) := Lib.hid (by first | exact XpK.next (t := []) rfl rfl SD (bel_one _ _) (fun b hb => by simp [Value.ownBlock] at hb; show w5.heap.size ≤ b; omega) h65 k65 j65 | exact XpK.next (t := []) rfl rfl SD (bel_two _ _ _) (fun b hb => by simp [Value.ownBlock] at hb; show w5.heap.size ≤ b; omega) h65 k65 j65); obtain ⟨k3, k4⟩ := CE.out w65 K65.out.bel; (first | have L65 := Lib.hid (gr_aside (xlay_1 w5.drew _ SD (p1, p2)).2 k65 (by simp [Value.ownBlock])) | have L65 := Lib.hid (gr_aside (xlay_2 w5.drew _ SD (p1, p2)).2 k65 (by simp [Value.ownBlock])) | skip); clear h65 k65 j65)
                | (refine xstep_words rfl (.tmp 67) (.tmp 69) w.heap.size (g.take q).length (gCells wrdCell (g.take q)) [(p1, p2)] (by first | exact K65.out.own | exact K65.out.own.alloc _) (by first | exact wrd_litR _ (p1, p2) | exact L65.out) rfl rfl (by go_simp) (by go_simp) (by first | exact Nat.le_trans SD K65.out.bel.size | exact Nat.le_trans (Nat.le_trans SD K65.out.bel.size) (bel_one _ _).size) (by rw [HTQ.out]; show (q + 1) * 24 ≤ 140737488355328; omega) ?_; intro v68 w68 h68 k68 j68; have K68 : Hid (XpK w w5.drew (g.take q ++ [(p1, p2)]) v68 w68) := Lib.hid (by first | exact XpK.next rfl rfl SD K65.out.bel K65.out.at_ h68 k68 j68 | exact XpK.next rfl rfl SD (K65.out.bel.trans ((bel_one _ _).mono K65.out.bel.size)) K65.out.at_ h68 k68 j68); clear h68 k68 j68)
                | (refine xstep_words rfl (.tmp 70) (.tmp 73) w.heap.size (g.take q ++ [(p1, p2)]).length (gCells wrdCell (g.take q ++ [(p1, p2)])) (g.drop q) (by exact K68.out.own) (by exact (by simpa using X2.out.below K68.out.bel)) rfl rfl (by go_simp) (by go_simp) (by exact Nat.le_trans SD K68.out.bel.size) (by rw [List.length_append, HTQ.out, HDQ.out]; show (q + 1 + (m - q)) * 24 ≤ 140737488355328; omega) ?_; intro v72 w72 h72 k72 j72; have K72 : Hid (XpK w w5.drew (g.take q ++ [(p1, p2)] ++ g.drop q) v72 w72) := Lib.hid (XpK.next rfl rfl SD K68.out.bel K68.out.at_ h72 k72 j72); clear h72 k72 j72))
              all_goals
                go_wp2
                exact ⟨⟨k + 1, by omega, by go_num, Lib.hid (by rw [hnew.out]; exact K72.out.own), Lib.hid (BD.out.trans (K72.out.bel.mono SD))⟩, by simp [RowKit.intOf]; omega⟩
          · go_wp2
            go_quiet (fail)
            go_wp2
            exact ⟨⟨q + 1, by omega, by go_num, Lib.hid (fun j y hj hy => by
              rcases Nat.lt_or_ge j q with h | h
              · exact HB.out j y h hy
              · obtain rfl : j = q := by omega
                rw [HY.out] at hy
                obtain rfl := Option.some.inj hy
                exact HLE.out), Lib.hid (below_draws BQ.out _)⟩, by simp [RowKit.intOf]; omega⟩
        · obtain rfl : q = m := by omega
          have hins := insW_at (p1, p2) g q HB.out (by rw [HM.out]; exact Nat.le_refl _) (fun y hy => by rw [List.getElem?_eq_none (by rw [HM.out]; exact Nat.le_refl _)] at hy; cases hy)
          have hnew : Hid (G (k + 1) = g.take q ++ [(p1, p2)] ++ g.drop q) := Lib.hid (by
            rw [HG1.out]
            exact hins.2 (fun x hx => by rw [List.getElem?_eq_none (by rw [HM.out]; exact Nat.le_refl _)] at hx; cases hx))
          clear hins
          have hq1 : ¬ (q : Int) < (q : Int) := by omega
          have hdr : g.drop q = [] := List.drop_of_length_le (by rw [HM.out]; exact Nat.le_refl _)
          have hvs : (A' = none ∧ q = 0 ∧ c' = 0) ∨ ∃ gb, A' = some ⟨gb, 0, none⟩ ∧ q ≤ c' ∧ c' ≤ maxLen := by
            rcases OQ.out.2 with ⟨e, h0⟩ | ⟨gb, cap, cur, e, _, _, h1, h2, _⟩
            · obtain ⟨e1, e2, e3⟩ := Value.slice.inj e
              exact .inl ⟨e1, e2, e3⟩
            · obtain ⟨e1, _, rfl⟩ := Value.slice.inj e
              exact .inr ⟨gb, e1, h1, h2⟩
          have gR := GRuns.of_own wrd_ln HM.out OQ.out
          have gX1 := Lib.hid (gr_front gR HM.out q (Nat.le_refl _))
          clear gR
          rcases hvs with ⟨rfl, rfl, rfl⟩ | ⟨gb, rfl, hqc, hcm⟩
          · have gX2 : Hid (WRuns wr (.slice none 0 0) (g.drop 0)) := Lib.hid (by rw [hdr]; exact GRuns.nil_ _ _ _)
            clear OQ EQ3 BQ hq1
            go_wp2
            go_quiet (fail)
            revert nq
            intro nqa
            go_wp2
            go_quiet (fail)
            revert nq
            intro nqb
            go_wp2
            obtain ⟨w5, hw5⟩ : ∃ w5, w5 = (wr.drewN nqa).drewN nqb := ⟨_, rfl⟩
            have h4D : Below wr.heap.size wr w5.drew := by rw [hw5]; exact (below_draws (below_draws (Below.refl _ _) _) _).drew
            have X1 := Lib.hid (gX1.out.below h4D)
            have X2 := Lib.hid (gX2.out.below h4D)
            have BD : Hid (Below w.heap.size w w5.drew) := Lib.hid (B4.out.trans (h4D.mono B4.out.size))
            have SD : w.heap.size ≤ w5.drew.heap.size := BD.out.size
            have LB : bx < w5.drew.heap.size := Nat.lt_of_lt_of_le LTQ h4D.size
            have x3 : w5.drew.cell? ⟨bx, 0, none⟩ = some (.string p1) := by rw [hw5]; exact f3
            have x4 : w5.drew.cell? ⟨bx, 1, none⟩ = some (.int .i64 p2) := by rw [hw5]; exact f4
            rw [← hw5]
            clear hw5 h4D gX1 gX2 f3 f4 B4
            have CE : Hid (∀ W, Below w5.drew.heap.size w5.drew W → W.cell? ⟨bx, 0, none⟩ = some (.string p1) ∧ W.cell? ⟨bx, 1, none⟩ = some (.int .i64 p2)) := Lib.hid (fun W hb => ⟨(hb.cell (p := ⟨bx, 0, none⟩) LB).trans x3, (hb.cell (p := ⟨bx, 1, none⟩) LB).trans x4⟩)
            obtain ⟨a3, a4⟩ := CE.out _ (bel_one w5.drew (.cells #[] 72))
            have b3 : (w5.alloc (.cells #[] 72)).cell? ⟨bx, 0, none⟩ = some (.string p1) := a3
            have b4 : (w5.alloc (.cells #[] 72)).cell? ⟨bx, 1, none⟩ = some (.int .i64 p2) := a4
            have d3 : (w5.alloc (.cells #[] 72)).drew.cell? ⟨bx, 0, none⟩ = some (.string p1) := a3
            have d4 : (w5.alloc (.cells #[] 72)).drew.cell? ⟨bx, 1, none⟩ = some (.int .i64 p2) := a4
            have hmix : Tryd.prog.follows .mixedOrders = true := by kernel_rfl
            have tq : (g.take 0).length = 0 := by rw [List.length_take, HM.out]; omega
            have dq : (g.drop 0).length = 0 - 0 := by rw [List.length_drop, HM.out]
            have HTQ := Lib.hid tq; have HDQ := Lib.hid dq; clear tq dq
            have SD5 : w.heap.size ≤ w5.heap.size := SD
            go_region_law (first
              | (refine xstep_words rfl (.tmp 63) (.tmp 66) w.heap.size 0 [] (g.take 0) (by first | exact own_litW _ _ SD | exact (xlay_1 _ _ SD (p1, p2)).1 | exact (xlay_2 _ _ SD (p1, p2)).1) (by first | exact X1.out.below (bel_one _ _) | exact X1.out.below (bel_two _ _ _)) rfl rfl (by go_simp) (by go_simp) (by simp <;> omega) (by rw [HTQ.out]; omega) ?_; intro v65 w65 h65 k65 j65; have K65 : Hid (XpK w w5.drew (g.take 0) v65 w65) := Lib.hid (by first | exact XpK.next (t := []) rfl rfl SD (bel_one _ _) (fun b hb => by simp [Value.ownBlock] at hb; show w5.heap.size ≤ b; omega) h65 k65 j65 | exact XpK.next (t := []) rfl rfl SD (bel_two _ _ _) (fun b hb => by simp [Value.ownBlock] at hb; show w5.heap.size ≤ b; omega) h65 k65 j65); obtain ⟨k3, k4⟩ := CE.out w65 K65.out.bel; (first | have L65 := Lib.hid (gr_aside (xlay_1 w5.drew _ SD (p1, p2)).2 k65 (by simp [Value.ownBlock])) | have L65 := Lib.hid (gr_aside (xlay_2 w5.drew _ SD (p1, p2)).2 k65 (by simp [Value.ownBlock])) | skip); clear h65 k65 j65)
              | (refine xstep_words rfl (.tmp 67) (.tmp 69) w.heap.size (g.take 0).length (gCells wrdCell (g.take 0)) [(p1, p2)] (by first | exact K65.out.own | exact K65.out.own.alloc _) (by first | exact wrd_litR _ (p1, p2) | exact L65.out) rfl rfl (by go_simp) (by go_simp) (by first | exact Nat.le_trans SD K65.out.bel.size | exact Nat.le_trans (Nat.le_trans SD K65.out.bel.size) (bel_one _ _).size) (by rw [HTQ.out]; show (0 + 1) * 24 ≤ 140737488355328; omega) ?_; intro v68 w68 h68 k68 j68; have K68 : Hid (XpK w w5.drew (g.take 0 ++ [(p1, p2)]) v68 w68) := Lib.hid (by first | exact XpK.next rfl rfl SD K65.out.bel K65.out.at_ h68 k68 j68 | exact XpK.next rfl rfl SD (K65.out.bel.trans ((bel_one _ _).mono K65.out.bel.size)) K65.out.at_ h68 k68 j68); clear h68 k68 j68)
              | (refine xstep_words rfl (.tmp 70) (.tmp 73) w.heap.size (g.take 0 ++ [(p1, p2)]).length (gCells wrdCell (g.take 0 ++ [(p1, p2)])) (g.drop 0) (by exact K68.out.own) (by exact (by simpa using X2.out.below K68.out.bel)) rfl rfl (by go_simp) (by go_simp) (by exact Nat.le_trans SD K68.out.bel.size) (by rw [List.length_append, HTQ.out, HDQ.out]; show (0 + 1 + (0 - 0)) * 24 ≤ 140737488355328; omega) ?_; intro v72 w72 h72 k72 j72; have K72 : Hid (XpK w w5.drew (g.take 0 ++ [(p1, p2)] ++ g.drop 0) v72 w72) := Lib.hid (XpK.next rfl rfl SD K68.out.bel K68.out.at_ h72 k72 j72); clear h72 k72 j72))
            all_goals
              go_wp2
              exact ⟨⟨k + 1, by omega, by go_num, Lib.hid (by rw [hnew.out]; exact K72.out.own), Lib.hid (BD.out.trans (K72.out.bel.mono SD))⟩, by simp [RowKit.intOf]; omega⟩
          · unfold maxLen at hcm
            have r1 : (q : Int) ≤ (c' : Int) := by omega
            by_cases hcq : c' = q
            · subst hcq
              have gX2 : Hid (WRuns wr (.slice (some ⟨gb, 0, none⟩) 0 0) (g.drop c')) := Lib.hid (by rw [hdr]; exact gr_none (by simp [maxLen]) (fun h => by cases h))
              clear OQ EQ3 BQ
              go_wp2
              go_quiet (fail)
              revert nq
              intro nqa
              go_wp2
              go_quiet (fail)
              revert nq
              intro nqb
              go_wp2
              obtain ⟨w5, hw5⟩ : ∃ w5, w5 = (wr.drewN nqa).drewN nqb := ⟨_, rfl⟩
              have h4D : Below wr.heap.size wr w5.drew := by rw [hw5]; exact (below_draws (below_draws (Below.refl _ _) _) _).drew
              have X1 := Lib.hid (gX1.out.below h4D)
              have X2 := Lib.hid (gX2.out.below h4D)
              have BD : Hid (Below w.heap.size w w5.drew) := Lib.hid (B4.out.trans (h4D.mono B4.out.size))
              have SD : w.heap.size ≤ w5.drew.heap.size := BD.out.size
              have LB : bx < w5.drew.heap.size := Nat.lt_of_lt_of_le LTQ h4D.size
              have x3 : w5.drew.cell? ⟨bx, 0, none⟩ = some (.string p1) := by rw [hw5]; exact f3
              have x4 : w5.drew.cell? ⟨bx, 1, none⟩ = some (.int .i64 p2) := by rw [hw5]; exact f4
              rw [← hw5]
              clear hw5 h4D gX1 gX2 f3 f4 B4
              have CE : Hid (∀ W, Below w5.drew.heap.size w5.drew W → W.cell? ⟨bx, 0, none⟩ = some (.string p1) ∧ W.cell? ⟨bx, 1, none⟩ = some (.int .i64 p2)) := Lib.hid (fun W hb => ⟨(hb.cell (p := ⟨bx, 0, none⟩) LB).trans x3, (hb.cell (p := ⟨bx, 1, none⟩) LB).trans x4⟩)
              obtain ⟨a3, a4⟩ := CE.out _ (bel_one w5.drew (.cells #[] 72))
              have b3 : (w5.alloc (.cells #[] 72)).cell? ⟨bx, 0, none⟩ = some (.string p1) := a3
              have b4 : (w5.alloc (.cells #[] 72)).cell? ⟨bx, 1, none⟩ = some (.int .i64 p2) := a4
              have d3 : (w5.alloc (.cells #[] 72)).drew.cell? ⟨bx, 0, none⟩ = some (.string p1) := a3
              have d4 : (w5.alloc (.cells #[] 72)).drew.cell? ⟨bx, 1, none⟩ = some (.int .i64 p2) := a4
              have hmix : Tryd.prog.follows .mixedOrders = true := by kernel_rfl
              have tq : (g.take c').length = c' := by rw [List.length_take, HM.out]; omega
              have dq : (g.drop c').length = c' - c' := by rw [List.length_drop, HM.out]
              have HTQ := Lib.hid tq; have HDQ := Lib.hid dq; clear tq dq
              have SD5 : w.heap.size ≤ w5.heap.size := SD
              go_region_law (first
                | (refine xstep_words rfl (.tmp 63) (.tmp 66) w.heap.size 0 [] (g.take c') (by first | exact own_litW _ _ SD | exact (xlay_1 _ _ SD (p1, p2)).1 | exact (xlay_2 _ _ SD (p1, p2)).1) (by first | exact X1.out.below (bel_one _ _) | exact X1.out.below (bel_two _ _ _)) rfl rfl (by go_simp) (by go_simp) (by simp <;> omega) (by rw [HTQ.out]; omega) ?_; intro v65 w65 h65 k65 j65; have K65 : Hid (XpK w w5.drew (g.take c') v65 w65) := Lib.hid (by first | exact XpK.next (t := []) rfl rfl SD (bel_one _ _) (fun b hb => by simp [Value.ownBlock] at hb; show w5.heap.size ≤ b; omega) h65 k65 j65 | exact XpK.next (t := []) rfl rfl SD (bel_two _ _ _) (fun b hb => by simp [Value.ownBlock] at hb; show w5.heap.size ≤ b; omega) h65 k65 j65); obtain ⟨k3, k4⟩ := CE.out w65 K65.out.bel; (first | have L65 := Lib.hid (gr_aside (xlay_1 w5.drew _ SD (p1, p2)).2 k65 (by simp [Value.ownBlock])) | have L65 := Lib.hid (gr_aside (xlay_2 w5.drew _ SD (p1, p2)).2 k65 (by simp [Value.ownBlock])) | skip); clear h65 k65 j65)
                | (refine xstep_words rfl (.tmp 67) (.tmp 69) w.heap.size (g.take c').length (gCells wrdCell (g.take c')) [(p1, p2)] (by first | exact K65.out.own | exact K65.out.own.alloc _) (by first | exact wrd_litR _ (p1, p2) | exact L65.out) rfl rfl (by go_simp) (by go_simp) (by first | exact Nat.le_trans SD K65.out.bel.size | exact Nat.le_trans (Nat.le_trans SD K65.out.bel.size) (bel_one _ _).size) (by rw [HTQ.out]; show (c' + 1) * 24 ≤ 140737488355328; omega) ?_; intro v68 w68 h68 k68 j68; have K68 : Hid (XpK w w5.drew (g.take c' ++ [(p1, p2)]) v68 w68) := Lib.hid (by first | exact XpK.next rfl rfl SD K65.out.bel K65.out.at_ h68 k68 j68 | exact XpK.next rfl rfl SD (K65.out.bel.trans ((bel_one _ _).mono K65.out.bel.size)) K65.out.at_ h68 k68 j68); clear h68 k68 j68)
                | (refine xstep_words rfl (.tmp 70) (.tmp 73) w.heap.size (g.take c' ++ [(p1, p2)]).length (gCells wrdCell (g.take c' ++ [(p1, p2)])) (g.drop c') (by exact K68.out.own) (by exact (by simpa using X2.out.below K68.out.bel)) rfl rfl (by go_simp) (by go_simp) (by exact Nat.le_trans SD K68.out.bel.size) (by rw [List.length_append, HTQ.out, HDQ.out]; show (c' + 1 + (c' - c')) * 24 ≤ 140737488355328; omega) ?_; intro v72 w72 h72 k72 j72; have K72 : Hid (XpK w w5.drew (g.take c' ++ [(p1, p2)] ++ g.drop c') v72 w72) := Lib.hid (XpK.next rfl rfl SD K68.out.bel K68.out.at_ h72 k72 j72); clear h72 k72 j72))
              all_goals
                go_wp2
                exact ⟨⟨k + 1, by omega, by go_num, Lib.hid (by rw [hnew.out]; exact K72.out.own), Lib.hid (BD.out.trans (K72.out.bel.mono SD))⟩, by simp [RowKit.intOf]; omega⟩
            · have gX2 : Hid (WRuns wr (.slice (some ⟨gb, 0 + c' * 0 + q * 2, none⟩) 0 (c' - q)) (g.drop q)) := Lib.hid (by rw [hdr]; exact gr_none (by unfold maxLen; omega) (fun h => by cases h))
              simp only [Nat.zero_add, Nat.mul_zero] at gX2
              clear OQ EQ3 BQ
              go_wp2
              go_quiet (fail)
              revert nq
              intro nqa
              go_wp2
              go_quiet (fail)
              revert nq
              intro nqb
              go_wp2
              obtain ⟨w5, hw5⟩ : ∃ w5, w5 = (wr.drewN nqa).drewN nqb := ⟨_, rfl⟩
              have h4D : Below wr.heap.size wr w5.drew := by rw [hw5]; exact (below_draws (below_draws (Below.refl _ _) _) _).drew
              have X1 := Lib.hid (gX1.out.below h4D)
              have X2 := Lib.hid (gX2.out.below h4D)
              have BD : Hid (Below w.heap.size w w5.drew) := Lib.hid (B4.out.trans (h4D.mono B4.out.size))
              have SD : w.heap.size ≤ w5.drew.heap.size := BD.out.size
              have LB : bx < w5.drew.heap.size := Nat.lt_of_lt_of_le LTQ h4D.size
              have x3 : w5.drew.cell? ⟨bx, 0, none⟩ = some (.string p1) := by rw [hw5]; exact f3
              have x4 : w5.drew.cell? ⟨bx, 1, none⟩ = some (.int .i64 p2) := by rw [hw5]; exact f4
              rw [← hw5]
              clear hw5 h4D gX1 gX2 f3 f4 B4
              have CE : Hid (∀ W, Below w5.drew.heap.size w5.drew W → W.cell? ⟨bx, 0, none⟩ = some (.string p1) ∧ W.cell? ⟨bx, 1, none⟩ = some (.int .i64 p2)) := Lib.hid (fun W hb => ⟨(hb.cell (p := ⟨bx, 0, none⟩) LB).trans x3, (hb.cell (p := ⟨bx, 1, none⟩) LB).trans x4⟩)
              obtain ⟨a3, a4⟩ := CE.out _ (bel_one w5.drew (.cells #[] 72))
              have b3 : (w5.alloc (.cells #[] 72)).cell? ⟨bx, 0, none⟩ = some (.string p1) := a3
              have b4 : (w5.alloc (.cells #[] 72)).cell? ⟨bx, 1, none⟩ = some (.int .i64 p2) := a4
              have d3 : (w5.alloc (.cells #[] 72)).drew.cell? ⟨bx, 0, none⟩ = some (.string p1) := a3
              have d4 : (w5.alloc (.cells #[] 72)).drew.cell? ⟨bx, 1, none⟩ = some (.int .i64 p2) := a4
              have hmix : Tryd.prog.follows .mixedOrders = true := by kernel_rfl
              have tq : (g.take q).length = q := by rw [List.length_take, HM.out]; omega
              have dq : (g.drop q).length = q - q := by rw [List.length_drop, HM.out]
              have HTQ := Lib.hid tq; have HDQ := Lib.hid dq; clear tq dq
              have SD5 : w.heap.size ≤ w5.heap.size := SD
              go_region_law (first
                | (refine xstep_words rfl (.tmp 63) (.tmp 66) w.heap.size 0 [] (g.take q) (by first | exact own_litW _ _ SD | exact (xlay_1 _ _ SD (p1, p2)).1 | exact (xlay_2 _ _ SD (p1, p2)).1) (by first | exact X1.out.below (bel_one _ _) | exact X1.out.below (bel_two _ _ _)) rfl rfl (by go_simp) (by go_simp) (by simp <;> omega) (by rw [HTQ.out]; omega) ?_; intro v65 w65 h65 k65 j65; have K65 : Hid (XpK w w5.drew (g.take q) v65 w65) := Lib.hid (by first | exact XpK.next (t := []) rfl rfl SD (bel_one _ _) (fun b hb => by simp [Value.ownBlock] at hb; show w5.heap.size ≤ b; omega) h65 k65 j65 | exact XpK.next (t := []) rfl rfl SD (bel_two _ _ _) (fun b hb => by simp [Value.ownBlock] at hb; show w5.heap.size ≤ b; omega) h65 k65 j65); obtain ⟨k3, k4⟩ := CE.out w65 K65.out.bel; (first | have L65 := Lib.hid (gr_aside (xlay_1 w5.drew _ SD (p1, p2)).2 k65 (by simp [Value.ownBlock])) | have L65 := Lib.hid (gr_aside (xlay_2 w5.drew _ SD (p1, p2)).2 k65 (by simp [Value.ownBlock])) | skip); clear h65 k65 j65)
                | (refine xstep_words rfl (.tmp 67) (.tmp 69) w.heap.size (g.take q).length (gCells wrdCell (g.take q)) [(p1, p2)] (by first | exact K65.out.own | exact K65.out.own.alloc _) (by first | exact wrd_litR _ (p1, p2) | exact L65.out) rfl rfl (by go_simp) (by go_simp) (by first | exact Nat.le_trans SD K65.out.bel.size | exact Nat.le_trans (Nat.le_trans SD K65.out.bel.size) (bel_one _ _).size) (by rw [HTQ.out]; show (q + 1) * 24 ≤ 140737488355328; omega) ?_; intro v68 w68 h68 k68 j68; have K68 : Hid (XpK w w5.drew (g.take q ++ [(p1, p2)]) v68 w68) := Lib.hid (by first | exact XpK.next rfl rfl SD K65.out.bel K65.out.at_ h68 k68 j68 | exact XpK.next rfl rfl SD (K65.out.bel.trans ((bel_one _ _).mono K65.out.bel.size)) K65.out.at_ h68 k68 j68); clear h68 k68 j68)
                | (refine xstep_words rfl (.tmp 70) (.tmp 73) w.heap.size (g.take q ++ [(p1, p2)]).length (gCells wrdCell (g.take q ++ [(p1, p2)])) (g.drop q) (by exact K68.out.own) (by exact (by simpa using X2.out.below K68.out.bel)) rfl rfl (by go_simp) (by go_simp) (by exact Nat.le_trans SD K68.out.bel.size) (by rw [List.length_append, HTQ.out, HDQ.out]; show (q + 1 + (q - q)) * 24 ≤ 140737488355328; omega) ?_; intro v72 w72 h72 k72 j72; have K72 : Hid (XpK w w5.drew (g.take q ++ [(p1, p2)] ++ g.drop q) v72 w72) := Lib.hid (XpK.next rfl rfl SD K68.out.bel K68.out.at_ h72 k72 j72); clear h72 k72 j72))
              all_goals
                go_wp2
                exact ⟨⟨k + 1, by omega, by go_num, Lib.hid (by rw [hnew.out]; exact K72.out.own), Lib.hid (BD.out.trans (K72.out.bel.mono SD))⟩, by simp [RowKit.intOf]; omega⟩
    · obtain rfl : k = n := by omega
      have hgl := GLN.out k (Nat.le_refl _)
      obtain ⟨g, hg⟩ : ∃ z, G k = z := ⟨_, rfl⟩
      rw [hg] at HO HE HS hgl
      obtain ⟨m, hm⟩ : ∃ z, g.length = z := ⟨_, rfl⟩
      rw [hm] at HO HE hgl
      have GR := Lib.hid (GRuns.of_own wrd_ln hm HO.out)
      obtain ⟨A', c', hv⟩ := GR.out.slice
      rw [hm] at hv
      subst hv
      have hE2 : Hid (er = if 65536 < m then 6 else 0) := Lib.hid (by rw [HE.out, if_pos (by first | rfl | trivial)])
      clear HO hg hm
      by_cases hbig : 65536 < m
      · have hb1 : (65536 : Int) < (m : Int) := by omega
        have hEr : er = 6 := by rw [hE2.out, if_pos hbig]
        subst hEr
        have hYs : Hid (Y = []) := Lib.hid (by rw [HS.out]; simp)
        go_wp2
        go_ret2
        exact ⟨_, rfl, by rw [hYs.out]; exact GRuns.nil_ _ _ _, BW.out⟩
      · have hb1 : ¬ (65536 : Int) < (m : Int) := by omega
        have hEr : er = 0 := by rw [hE2.out, if_neg hbig]
        subst hEr
        have hYs : Hid (Y = g) := Lib.hid (by rw [HS.out]; simp)
        go_wp2
        go_ret2
        exact ⟨_, rfl, by rw [hYs.out]; exact GR.out, BW.out⟩
end Go.Proofs.YtljaibhhkjapmaaDoor

/- lexicon.together: words sorted, those of one text as one. -/
namespace Go.Proofs.YtljaibhhkjapmaaDoor
open Go.RowKit Go.Shelf Go.Lib
set_option linter.unusedSimpArgs false
set_option linter.unusedVariables false

/-- One word more of sorted ones. -/
theorem tog_step {d : List Wrd} (hd : d.Pairwise (fun x y => ltOf cmpT y x = false)) (hf : frB d) (k : Nat) (x : Wrd) (hx : d[k]? = some x) :
    (nrmW (d.take k) = [] → nrmW (d.take (k + 1)) = [x]) ∧ ∀ i y, (nrmW (d.take k)).length = i + 1 → (nrmW (d.take k))[i]? = some y →
      (y.1 = x.1 → nrmW (d.take (k + 1)) = (nrmW (d.take k)).set i (y.1, min 1073741824 (y.2 + x.2))) ∧ (y.1 ≠ x.1 → nrmW (d.take (k + 1)) = nrmW (d.take k) ++ [x]) := by
  rw [nrmW_take k x hx]
  refine ⟨fun h => by rw [h]; rfl, fun i y hi hy => ?_⟩
  have hft : frB (d.take k) := fun z hz => hf z (List.mem_of_mem_take hz)
  have hs := nrmW_srt hft
  have hkeys := nrmW_keys (d.take k)
  obtain ⟨g, hg⟩ : ∃ g, nrmW (d.take k) = g := ⟨_, rfl⟩
  rw [hg] at hi hy hs hkeys ⊢
  have hle : ∀ z ∈ g, ltK x.1 z.1 = false := fun z hz => by
    obtain ⟨q, hq, e⟩ := hkeys z hz
    obtain ⟨j, hj⟩ := List.getElem?_of_mem hq
    rw [List.getElem?_take] at hj
    split at hj
    · rename_i hjk
      obtain ⟨h1, h1'⟩ := List.getElem?_eq_some_iff.1 hj
      obtain ⟨h2, h2'⟩ := List.getElem?_eq_some_iff.1 hx
      have := List.pairwise_iff_getElem.1 hd j k h1 h2 hjk
      rw [ltOf_cmpT, h1', h2'] at this
      rw [e]; exact this
    · cases hj
  have hsplit : g = g.take i ++ [y] := by
    have h1 : g.take (i + 1) = g := List.take_of_length_le (by omega)
    rw [List.take_add_one, hy] at h1
    exact h1.symm
  have hyx := hle y (List.mem_of_getElem? hy)
  have hlt : ∀ z ∈ g.take i, ltK z.1 x.1 = true := fun z hz => by
    obtain ⟨j, hj⟩ := List.getElem?_of_mem hz
    rw [List.getElem?_take] at hj
    split at hj
    · rename_i hji
      have h1 := srtW_at hs hji hj hy
      rcases ltK_one z.1 x.1 with ⟨h, _, _⟩ | ⟨_, h, _⟩ | ⟨_, _, h⟩
      · exact h
      · rw [hle z (List.mem_of_getElem? hj)] at h; cases h
      · rw [h, hyx] at h1; cases h1
    · cases hj
  have hlen : (g.take i).length = i := by rw [List.length_take]; omega
  have hl := insW_last (g.take i) y x hlt hyx
  rw [← hsplit] at hl
  refine ⟨fun e => ?_, fun e => ?_⟩
  · rw [hl, if_pos e]
    have h2 : g.set i (y.1, min 1073741824 (y.2 + x.2)) = (g.take i ++ [y]).set i (y.1, min 1073741824 (y.2 + x.2)) := by rw [← hsplit]
    rw [h2, List.set_append_right _ _ (by omega), hlen, Nat.sub_self]
    rfl
  · rw [hl, if_neg e]

end Go.Proofs.YtljaibhhkjapmaaDoor

