/- Texts that several proofs of this seat share, one behind the other: HPair Frame. -/
import Derived.Test.YtlicchblafodaaaDoorPk9
import Derived.Test.YtlicchblafodaaaDoorPk10
import Derived.Test.YtlicchblafodaaaDoorPk2
import Derived.Test.YtlicchblafodaaaDoorCards
import Derived.Test.YtlicchblafodaaaDoorTie
import Derived.OpenShut
import Derived.Deep.DeepHandedRow
import Derived.Lib.LaidTab
import Derived.Lib.LaidU8T
import Derived.Carry
/- block.Pair: the blocks of two tokens, or why one of them is none; what block's functions answer, in every world; the examples of layer 5. -/
namespace Go.Proofs.YtlicchblafodaaaDoor
open Go.RowKit Go.Shelf

theorem of_at (l : List St) (hl : l.length ≤ 1000000) (hf : stFit l) : OfAt l := by
  intro w u h hu
  refine (of_own u l w h hu hl hf).mono ?_
  rintro e w' ⟨v, rfl, hrow, hb⟩
  exact ⟨v, rfl, GRuns.of_own blk_len rfl hrow, hb⟩
theorem long_at (l : List St) (hl : l.length ≤ 1000000) (hf : stFit l) : LongAt l := fun w u h hu => long_any u l w h hu hl hf
theorem chk_at (b : Blk) (h1 : b.1.size * 4 ≤ 140737488355328) (h2 : b.2.1.size * 4 ≤ 140737488355328) : ChkAt b := fun w h => chk_any b.1 b.2.1 b.2.2 w h h1 h2
theorem less_at (a b : Blk) : LessAt a b := fun w _ => less_any a.1 a.2.1 b.1 b.2.1 a.2.2 b.2.2 w

set_option maxRecDepth 100000 in
set_option maxHeartbeats 2000000 in
theorem pair_at (s t : ByteArray) (hs : s.size * 4 ≤ 140737488355328) (ht : t.size * 4 ≤ 140737488355328) : PairAt s t := by
  intro w h
  have c := steps_any s t hs ht w h
  by_cases h2 : tokErr2 s.data.toList t.data.toList = 0
  · obtain ⟨_, _, f3, _, f5, f6, _⟩ := steps_facts s.data.toList t.data.toList h2
    have cO := of_at (stepsS s.data.toList t.data.toList) (by omega) f5
    unfold OfAt at cO
    rw [f3] at cO
    rw [h2] at c ⊢
    clear f3 f5 f6 h2
    obtain ⟨l, hl⟩ : ∃ l, stepsS s.data.toList t.data.toList = l := ⟨_, rfl⟩
    rw [hl] at c cO ⊢
    clear hl
    obtain ⟨X, hX⟩ : ∃ X, ofS l = X := ⟨_, rfl⟩
    rw [hX] at cO ⊢
    clear hX
    have C := Lib.hid c; have CO := Lib.hid cO
    clear c cO
    go_enter Tryd.func16, Tryd.ntmps16
    go_wp2_with fail
    refine C.out.mono ?_
    rintro e w1 ⟨v, rfl, r1, b1⟩
    have R1 := Lib.hid r1; have B1 := Lib.hid b1
    obtain ⟨A, cc, rfl, _⟩ := r1
    clear b1
    go_wp2_with fail
    refine (CO.out _ _ (h.below B1.out) R1.out).mono ?_
    rintro e w2 ⟨v2, rfl, r2, b2⟩
    have R2 := Lib.hid r2
    have B2 := Lib.hid (B1.out.trans (b2.mono B1.out.size))
    obtain ⟨A2, c2, rfl⟩ := r2.slice
    clear b2 r2
    go_wp2
    go_ret2
    exact ⟨_, rfl, R2.out, B2.out⟩
  · have e3 : ofS (stepsS s.data.toList t.data.toList) = [] := by rw [stepsS, if_neg h2]; simp [ofS, rowsP_nil]
    rw [e3]
    clear e3
    obtain ⟨er, he⟩ : ∃ er, tokErr2 s.data.toList t.data.toList = er := ⟨_, rfl⟩
    rw [he] at h2 c ⊢
    clear he
    have hz : (er == 0) = false := by simpa using h2
    have C := Lib.hid c; clear c
    go_enter Tryd.func16, Tryd.ntmps16
    go_wp2_with fail
    refine C.out.mono ?_
    rintro e w1 ⟨v, rfl, r1, b1⟩
    have B1 := Lib.hid b1
    obtain ⟨A, cc, rfl, _⟩ := r1
    clear b1
    go_wp2
    go_ret2
    exact ⟨_, rfl, GRuns.nil_ _ _ _, B1.out⟩

theorem ex5 : tokErr2 [97, 114, 110] [97, 109] = 0 ∧ ofS (stepsS [97, 114, 110] [97, 109]) = [(⟨#[114, 110]⟩, ⟨#[109]⟩, 1)] := by
  have e1 : tokErr [97, 114, 110] = 0 := by decide +kernel
  have e2 : tokErr [97, 109] = 0 := by decide +kernel
  have e3 : tokErr2 [97, 114, 110] [97, 109] = 0 := tokErr2_of e1 e2
  have r1 : tokRunes [97, 114, 110] = [97, 114, 110] := by decide +kernel
  have r2 : tokRunes [97, 109] = [97, 109] := by decide +kernel
  refine ⟨e3, ?_⟩
  have l1 : levR [110, 114, 97] [109, 97] = 2 := by simp [levR_cons, levR_nil, levR_nil']
  have l2 : levR [114, 97] [97] = 1 := by simp [levR_cons, levR_nil, levR_nil']
  have l3 : levR [97] [97] = 0 := by simp [levR_cons, levR_nil, levR_nil']
  have l4 : levR [97] [] = 1 := by simp [levR_nil']
  have p : (pathR [110, 114, 97] [109, 97]).reverse = [(0, 97, 97), (2, 114, 0), (1, 110, 109)] := by
    rw [pathR_sub (by decide) (by rw [l1, l2]), pathR, if_neg (by decide), if_neg (by rw [l2, l4]; decide), if_pos (by rw [l2, l3]), pathR_same, pathR]
    rfl
  have hs : stepsS [97, 114, 110] [97, 109] = [(0, 97, 97), (2, 114, 0), (1, 110, 109)] := by
    rw [stepsS, if_pos e3, r1, r2]; exact p
  rw [hs]
  have hr : rowsP [((0 : Int), (97 : Int), (97 : Int)), (2, 114, 0), (1, 110, 109)] = [[(2, 114, 0), (1, 110, 109)]] := by
    rw [rowsP_match rfl, rowsP_one (by simp) (by simp)]
  rw [ofS, if_pos (by decide +kernel), hr]
  have hA : readA [(2, 114, 0), (1, 110, 109)] = [114, 110] := by decide +kernel
  have hB : readB [(2, 114, 0), (1, 110, 109)] = [109] := by decide +kernel
  have hl : longB [(2, 114, 0), (1, 110, 109)] = false := by decide +kernel
  have hd : diffB [(2, 114, 0), (1, 110, 109)] = true := by decide +kernel
  simp [hl, hd, blkOf, hA, hB, mkB]

set_option maxRecDepth 100000 in
set_option maxHeartbeats 4000000 in
theorem alive5_any : Alive5 := by
  intro w h
  have c1 := pair_at ⟨#[97, 114, 110]⟩ ⟨#[97, 109]⟩ (by decide) (by decide)
  have c2 := fun w => less_any ⟨#[97]⟩ ⟨#[]⟩ ⟨#[98]⟩ ⟨#[]⟩ 0 0 w
  have hless : lessB ((⟨#[97]⟩ : ByteArray), (⟨#[]⟩ : ByteArray), (0 : Int)) (⟨#[98]⟩, ⟨#[]⟩, 0) = true := by decide +kernel
  rw [hless] at c2
  unfold PairAt at c1
  simp only [ex5.1, ex5.2] at c1
  have C1 := Lib.hid c1; have C2 := Lib.hid c2
  clear c1 c2 hless
  go_enter Tryd.func10, Tryd.ntmps10
  go_wp2_with fail
  refine (C1.out _ h).mono ?_
  rintro e w1 ⟨v, rfl, r1, b1⟩
  obtain ⟨A, c, rfl⟩ := r1.slice
  obtain ⟨b, o, rfl, _, hc⟩ := r1.cells rfl (by simp)
  obtain ⟨f0, f1, f2⟩ := blk_cells (j := 0) hc rfl
  simp at f0 f1 f2
  have B1 := Lib.hid b1
  clear hc r1 b1
  simp only [List.length_cons, List.length_nil, Nat.zero_add]
  go_wp2_with fail
  refine (C2.out _).mono ?_
  rintro e w2 ⟨rfl, b2⟩
  have B2 := Lib.hid (B1.out.trans (b2.mono B1.out.size))
  clear b2
  go_wp2
  go_ret
  exact ⟨rfl, B2.out⟩
end Go.Proofs.YtlicchblafodaaaDoor

/- What every law's proof needs around its walk: the arguments read as they did wherever old memory is kept; a world for the witness; what the listed tables give. -/
namespace Go.Proofs.YtlicchblafodaaaDoor
open Go.ChangeShapes Go.WideShapes Go.ChangeAt Go.RowKit Go.Shelf

theorem own : ownKnob Tryd.prog.godebug = none := by kernel_rfl
theorem laidOut : laidOutB Tryd.prog = true := by kernel_rfl

theorem trodAll_below {H : Type} {enc : TypeId × Value → H} {P : Program} (hl : laidOutB P = true) {W W' : World} (hb : Below W.heap.size W W') :
    ∀ (ts : List TypeId) (vs : List Value) (ds : List (DataW H)) (ps : List MemPlace), (∀ t ∈ ts, P.readableRec t = true ∧ t < P.types.size) → (∀ x ∈ ps, x.block < W.heap.size) →
      DataW.TrodAll enc P W 0 (fun _ => true) true ts vs ds ps → DataW.TrodAll enc P W' 0 (fun b => decide (b < W.heap.size)) true ts vs ds ps
  | [], vs, ds, ps, _, _, h => by
    obtain ⟨rfl, rfl, rfl⟩ := trodAll_nil h
    exact trodAll_mk0
  | t :: ts, vs, ds, ps, ht, hp, h => by
    obtain ⟨v0, vs0, d0, ds0, p0, q0, rfl, rfl, rfl, h0, r0⟩ := trodAll_cons h
    exact trodAll_cons_mk (Below.trod hl (ht t (by simp)).1 (ht t (by simp)).2 h0 hb (fun x hx => hp x (by simp [hx]))) (trodAll_below hl hb ts vs0 ds0 q0 (fun t' h' => ht t' (by simp [h'])) (fun x hx => hp x (by simp [hx])) r0)

theorem cells32 : Tryd.prog.cellsOf 21 = 1 := by kernel_rfl
/-- An argument of type []int32 reads as a list of numbers of that kind. -/
theorem runs_of_arg {H : Type} {enc : TypeId × Value → H} {W : World} {base : Nat} {v : Value} {d : DataW H} {p : List MemPlace} (hv : Value.okWide Tryd.prog W .any base 40 v) (h : DataW.Trod enc Tryd.prog W 0 (fun _ => true) true 40 v d p) :
    ∃ a : List Int, Runs W v a ∧ ∀ x ∈ a, -2147483648 ≤ x ∧ x ≤ 2147483647 := by
  obtain ⟨a0, len, cap, rfl⟩ := okWide_slice Tryd.underlying40 hv
  obtain ⟨fuel, hf⟩ := h
  rcases open_ints Tryd.underlying40 Tryd.underlying21 cells32 hf with ⟨hcs, _⟩ | ⟨a, len', cap', zs, hcs, _, hl, hm, hz, _, hcell, hwz⟩
  · have e : Value.slice a0 len cap = .slice none 0 0 := by simpa [Value.cells] using hcs
    rw [e]
    exact ⟨[], Runs.nil_ _, by simp⟩
  · have e : Value.slice a0 len cap = .slice (some a) len' cap' := by simpa [Value.cells] using hcs
    rw [e]
    simp only [if_true] at hz
    have hlen : (zs.take len').length = len' := by rw [List.length_take]; omega
    refine ⟨zs.take len', ⟨some a, cap', by rw [hlen], by omega, ⟨hm, fun h => by cases h⟩, fun h0 => ?_⟩, fun x hx => bounds_i32 (hwz x (List.mem_of_mem_take hx))⟩
    obtain ⟨b, off, rfl, hc⟩ := ints_at hcell (by omega)
    have h00 := hc 0 (by omega)
    refine ⟨b, off, rfl, ?_, fun j hj => ?_⟩
    · rcases Nat.lt_or_ge b W.heap.size with h' | h'
      · exact h'
      · simp [World.cell?, Array.getElem?_eq_none h'] at h00
    · rw [hc j (by omega)]
      simp only [List.getD_eq_getElem?_getD, List.getElem?_take]
      rw [if_pos (by omega)]

/-- A law that answered true and changed nothing old has its row's post. -/
theorem law_post {H : Type} {enc : TypeId × Value → H} {P : Program} {f : Func} {s : ChangeSpec} {W W' : World} {args : Array Value} {ds gs : List (DataW H)} {before : List MemPlace} {tb : TypeId}
    (hl : laidOutB P = true) (hts : ∀ t ∈ f.params.toList, P.readableRec t = true ∧ t < P.types.size) (hW : DataW.Whole enc P f.params.toList s.vars false W args.toList ds gs before) (hb : Below W.heap.size W W')
    (hbool : P.underlying tb = some .bool) (hrt : f.resultTypes = #[tb]) (hs : s.vars = []) (h1 : (s.fn H (ds ++ gs)).results = [.lit (.bool true)]) (h2 : (s.fn H (ds ++ gs)).args = ds) (h3 : (s.fn H (ds ++ gs)).vars = []) :
    s.post enc P f false true false false W args (.bool true) W' := by
  have hW' := hW
  obtain ⟨p, q, hA, hV, hbef, _, _⟩ := hW
  have hlt : ∀ x ∈ p, x.block < W.heap.size := fun x hx => hW'.lt x (by rw [hbef]; simp [hx])
  refine ⟨ds, gs, before, [], p, [], hW', ?_, ?_, ?_, hb.frame _, fun h => by cases h⟩
  · rw [hrt, h1]; exact trodAll_cons_mk (shut_bool hbool _) trodAll_mk0
  · rw [h2]; exact trodAll_below hl hb _ _ _ _ hts hlt hA
  · rw [hs, h3]; rfl

/-- The list of variables that every row of this seat bears. -/
def laidList : List (String × DataW Unit) := [("unicode/utf8.acceptRanges", Rows.laid_unicode_utf8_acceptRanges), ("unicode/utf8.first", Rows.laid_unicode_utf8_first)]
theorem accept_same : (Rows.laid_unicode_utf8_acceptRanges : DataW Unit) = Lib.acceptData := by kernel_rfl
theorem first_same : Rows.laid_unicode_utf8_first = Lib.firstData := by kernel_rfl

theorem okw_of_laid {W : World} (hL : laidMetH Tryd.prog laidList W) : Okw W := by
  have h : laidMet Tryd.prog laidList W := hL
  have ht : Tabs W := utf8Tabs_of_readsT (U8Types.of260 Tryd.lays260) ⟨by kernel_rfl, by kernel_rfl, by kernel_rfl, by kernel_rfl, by kernel_rfl, by kernel_rfl, by kernel_rfl⟩
    (by have := Lib.laidMet.reads h (n := "unicode/utf8.first") (d := Rows.laid_unicode_utf8_first) (by simp [laidList]); rwa [first_same] at this)
    (by have := Lib.laidMet.reads h (n := "unicode/utf8.acceptRanges") (d := Rows.laid_unicode_utf8_acceptRanges) (by simp [laidList]); rwa [accept_same] at this)
  have lt : ∀ {a : Addr} {v : Value}, W.cell? a = some v → a.block < W.heap.size := fun {a v} hc => by
    rcases Nat.lt_or_ge a.block W.heap.size with h' | h'
    · exact h'
    · simp [World.cell?, Array.getElem?_eq_none h'] at hc
  exact ⟨ht, lt (ht.1 0 (by decide)), lt (ht.2 0 (by decide)).1⟩

def putCells (cs : Array Value) : Obj → Obj
  | .cells _ t frozen => .cells cs t frozen
  | o => o
/-- A world for the witness: the settled one, the two tables as their initialisers lay them. -/
noncomputable def laidWorld (os : Os) : World :=
  { World.holding Tryd.prog os ⟨#[], #[], []⟩ with heap := ((World.holding Tryd.prog os ⟨#[], #[], []⟩).heap.modify 0 (putCells (Lib.firstTab.map fun z => Value.int .u8 z).toArray)).modify 1 (putCells ((List.range 16).flatMap fun i => [Value.int .u8 (Lib.accLo i), Value.int .u8 (Lib.accHi i)]).toArray) }
theorem laid_met (os : Os) (args : Array Value) : laidMet Tryd.prog laidList ((laidWorld os).forCall (fun _ _ => 0) ⟨#[], args, []⟩).memory :=
  laidMet_of_run' 8 (by kernel_rfl) (by kernel_rfl)
end Go.Proofs.YtlicchblafodaaaDoor

