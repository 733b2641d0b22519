/- Texts that several proofs of this seat share, one behind the other: EPai Frame EArg. -/
import Derived.Test.YtmfmbmlfdlebfaaDoorPk14
import Derived.Test.YtmfmbmlfdlebfaaDoorPk2
import Derived.Test.YtmfmbmlfdlebfaaDoorCards
import Derived.Test.YtmfmbmlfdlebfaaDoorTie
import Derived.OpenShut
import Derived.Deep.DeepHandedRow
import Derived.Lib.LaidTab
import Derived.Lib.LaidU8T
import Derived.Carry
import Derived.Test.YtmfmbmlfdlebfaaDoorRows
import Derived.Lib.SmallJoins
import Derived.SliceStrings
import Derived.Deep.Slices
import Derived.ChangeArms
/- CountPairs, walked over what count's functions and the document's answer. -/
namespace Go.Proofs.YtmfmbmlfdlebfaaDoor
open Go.RowKit Go.Shelf
set_option linter.unusedSimpArgs false
set_option linter.unusedVariables false

def smP (l : List Pr) : Nat := (l.map (fun b => b.1.size + b.2.size)).sum
theorem smP_take {l : List Pr} (k : Nat) (x : Pr) (h : l[k]? = some x) : smP (l.take (k + 1)) = smP (l.take k) + (x.1.size + x.2.size) := by
  rw [List.take_add_one, h]; simp [smP]
theorem smP_mem (l : List Pr) : ∀ b ∈ l, b.1.size + b.2.size ≤ smP l := by
  induction l with
  | nil => simp
  | cons a l ih =>
    intro b hb
    have e : smP (a :: l) = a.1.size + a.2.size + smP l := by simp [smP]
    rw [e]
    rcases List.mem_cons.1 hb with rfl | hb
    · omega
    · have := ih b hb; omega
/-- Texts as long as a text may be. -/
def szP (l : List Pr) : Prop := ∀ b ∈ l, b.1.size ≤ 140737488355328 ∧ b.2.size ≤ 140737488355328
theorem smP_le {l : List Pr} {c : Nat} (h : ∀ b ∈ l, b.1.size ≤ c ∧ b.2.size ≤ c) (k : Nat) : smP (l.take k) ≤ k * (2 * c) := by
  induction k with
  | zero => simp [smP]
  | succ k ih =>
    cases hx : l[k]? with
    | none =>
      rw [List.take_add_one, hx]
      simp only [Option.toList_none, List.append_nil]
      rw [Nat.succ_mul]; omega
    | some x =>
      have := h x (List.mem_of_getElem? hx)
      rw [smP_take k x hx, Nat.succ_mul]; omega

set_option maxRecDepth 100000 in
set_option maxHeartbeats 8000000 in
theorem countPairs_walk (u : Value) (l : List Pr) (w : World) (h : Okw w) (hu : PRuns w u l) (hz : szP l) :
    Calls Tryd.prog 5 #[u] w (RetTrue w) := by
  have hcm : l.length ≤ maxLen := by
    obtain ⟨_, c, _, h1, h2, _⟩ := hu
    exact Nat.le_trans h1 h2.1
  have c1 := fun (hl : l.length ≤ 100) (hz : prSz l) w hO hu => pairs_any u l w hO hu (by omega) hz
  have c2 := fun (hl : l.length ≤ 100) (hz : prSz l) w hu => refPairs_any u l w hu hl hz
  obtain ⟨er, her⟩ : ∃ z, parE l = z := ⟨_, rfl⟩
  obtain ⟨X, hX⟩ : ∃ z, parS l = z := ⟨_, rfl⟩
  simp only [her, hX] at c1 c2
  clear her hX
  obtain ⟨A, c, e⟩ := hu.slice
  obtain ⟨n, hn⟩ : ∃ n, l.length = n := ⟨_, rfl⟩
  rw [hn] at e hcm
  subst e
  simp only [hn] at c1 c2
  have HU := Lib.hid hu; have C1 := Lib.hid c1; have C2 := Lib.hid c2; have HN := Lib.hid hn
  clear hu c1 c2
  unfold maxLen at hcm
  by_cases hbig : 100 < n
  · clear hz hn
    go_enter Tryd.func5, Tryd.ntmps5
    go_wp2_with fail
    refine (alive6_any _ h).mono ?_
    rintro e w1 ⟨rfl, b1⟩
    have U1 := Lib.hid (HU.out.below b1)
    have B1 := Lib.hid b1; clear b1
    go_wp2
    go_loopw [3, 14] (fun s3 s14 wr => ∃ (k : Nat) (s : Int), k ≤ n ∧ s14 = .int .i64 k ∧ s3 = .int .i64 s ∧ Hid (Below w1.heap.size w1 wr)) (fun _ s14 _ => n - (RowKit.intOf s14).toNat)
    case atStart => exact ⟨0, 0, Nat.zero_le _, rfl, rfl, Lib.hid (Below.refl _ _)⟩
    case round =>
      obtain ⟨k, s, hkn, rfl, rfl, BW⟩ := hrel
      by_cases hk : k < n
      · have k1 : (k : Int) < (n : Int) := by omega
        obtain ⟨⟨p1, p2⟩, hp⟩ : ∃ p, l[k]? = some p := ⟨_, List.getElem?_eq_getElem (by rw [HN.out]; exact hk)⟩
        obtain ⟨b, o, rfl, _, hc⟩ := (U1.out.below BW.out).cells HN.out (by omega)
        obtain ⟨g0, g1⟩ := pr_cells hc hp
        simp only at g0 g1
        have hal : Hid (Below w1.heap.size w1 (wr.alloc (.cells #[.string p1, .string p2] 38))) := Lib.hid (BW.out.alloc BW.out.size _)
        clear hc hp
        go_wp2
        exact ⟨⟨k + 1, _, by omega, by go_num, rfl, hal⟩, by simp [RowKit.intOf]; omega⟩
      · obtain rfl : k = n := by omega
        have h5 : (100 : Int) < (k : Int) := by omega
        have BE := Lib.hid (B1.out.trans (BW.out.mono B1.out.size))
        go_wp2
        go_ret
        exact ⟨rfl, BE.out⟩
  · have hb' := smP_le (c := 140737488355328) hz
    obtain ⟨sm, hsm⟩ : ∃ f, f = fun k => smP (l.take k) := ⟨_, rfl⟩
    have hst : ∀ k x, l[k]? = some x → sm (k + 1) = sm k + (x.1.size + x.2.size) := fun k x hx => by rw [hsm]; exact smP_take k x hx
    have hbd : ∀ k, sm k ≤ k * (2 * 140737488355328) := fun k => by rw [hsm]; exact hb' k
    have h0 : sm 0 = 0 := by rw [hsm]; simp [smP]
    have hfin : ∀ b ∈ l, b.1.size + b.2.size ≤ sm n := fun b hb => by
      rw [hsm]
      simp only
      rw [List.take_of_length_le (by rw [hn]; exact Nat.le_refl _)]
      exact smP_mem l b hb
    have ST := Lib.hid hst; have BD := Lib.hid hbd; have HF := Lib.hid hfin; have HZ := Lib.hid hz
    clear hst hbd hfin hsm hb' hz hn
    go_enter Tryd.func5, Tryd.ntmps5
    go_wp2_with fail
    refine (alive6_any _ h).mono ?_
    rintro e w1 ⟨rfl, b1⟩
    have U1 := Lib.hid (HU.out.below b1); have K1 : Hid (Okw w1) := Lib.hid (h.below b1)
    have B1 := Lib.hid b1; clear b1
    go_wp2
    go_loopw [3, 14] (fun s3 s14 wr => ∃ k : Nat, k ≤ n ∧ s14 = .int .i64 k ∧ s3 = .int .i64 (sm k : Nat) ∧ Hid (Below w1.heap.size w1 wr)) (fun _ s14 _ => n - (RowKit.intOf s14).toNat)
    case atStart => exact ⟨0, Nat.zero_le _, rfl, by rw [h0]; rfl, Lib.hid (Below.refl _ _)⟩
    case round =>
      obtain ⟨k, hkn, rfl, rfl, BW⟩ := hrel
      have bk := BD.out k
      obtain ⟨s, es⟩ : ∃ s, sm k = s := ⟨_, rfl⟩
      rw [es] at bk ⊢
      have HES := Lib.hid es; clear es
      by_cases hk : k < n
      · have k1 : (k : Int) < (n : Int) := by omega
        obtain ⟨⟨p1, p2⟩, hp⟩ : ∃ p, l[k]? = some p := ⟨_, List.getElem?_eq_getElem (by rw [HN.out]; exact hk)⟩
        obtain ⟨b, o, rfl, _, hc⟩ := (U1.out.below BW.out).cells HN.out (by omega)
        obtain ⟨g0, g1⟩ := pr_cells hc hp
        simp only at g0 g1
        have hs1 := ST.out k _ hp
        have hz1 := HZ.out _ (List.mem_of_getElem? hp)
        simp only at hs1 hz1
        rw [HES.out] at hs1
        have HS1 := Lib.hid hs1
        have w1' : IntKind.i64.wrap ((p1.size : Int) + (p2.size : Int)) = (p1.size : Int) + (p2.size : Int) := by rw [IntKind.wrap_i64]; omega
        have w2' : IntKind.i64.wrap ((s : Int) + ((p1.size : Int) + (p2.size : Int))) = (s : Int) + ((p1.size : Int) + (p2.size : Int)) := by rw [IntKind.wrap_i64]; omega
        have hal : Hid (Below w1.heap.size w1 (wr.alloc (.cells #[.string p1, .string p2] 38))) := Lib.hid (BW.out.alloc BW.out.size _)
        clear hc hp hs1
        go_wp2
        exact ⟨⟨k + 1, by omega, by go_num, by rw [HS1.out]; simp, hal⟩, by simp [RowKit.intOf]; omega⟩
      · obtain rfl : k = n := by omega
        have h5 : ¬ (100 : Int) < (k : Int) := by omega
        have BE := Lib.hid (B1.out.trans (BW.out.mono B1.out.size))
        by_cases h8 : 3000 < s
        · have h8' : (3000 : Int) < (s : Int) := by omega
          go_wp2
          go_ret
          exact ⟨rfl, BE.out⟩
        · have h8' : ¬ (3000 : Int) < (s : Int) := by omega
          have HPZ : Hid (prSz l) := Lib.hid (fun i p hp _ => by have := HF.out p (List.mem_of_getElem? hp); have := HES.out; omega)
          have hl100 : k ≤ 100 := by omega
          have U2 := Lib.hid (U1.out.below BW.out); have K2 : Hid (Okw wr) := Lib.hid (K1.out.below BW.out)
          have C1' := Lib.hid (C1.out hl100 HPZ.out); have C2' := Lib.hid (C2.out hl100 HPZ.out)
          clear C1 C2 HPZ hl100
          go_wp2_with fail
          refine (C1'.out _ K2.out U2.out).mono ?_
          rintro e w3 ⟨va, rfl, r3, b3⟩
          obtain ⟨Aa, ka, rfl⟩ := r3.slice
          have R3 := Lib.hid r3
          have U3 := Lib.hid (U2.out.below b3)
          have B3 := Lib.hid (BE.out.trans (b3.mono BE.out.size)); clear b3 r3
          go_wp2_with fail
          refine (C2'.out _ U3.out).mono ?_
          rintro e w4 ⟨vb, rfl, r4, b4⟩
          obtain ⟨Ab, kb, rfl⟩ := r4.slice
          have cs := refSame5_any _ _ X X w4 (R3.out.below b4) r4
          rw [decide_eq_true rfl] at cs
          have CS := Lib.hid cs
          have B4 := Lib.hid (B3.out.trans (b4.mono B3.out.size)); clear b4 r4 cs
          go_wp2_with fail
          refine CS.out.mono ?_
          rintro e w5 ⟨rfl, k5, rfl⟩
          go_wp2
          go_ret
          exact ⟨rfl, below_draws B4.out _⟩
end Go.Proofs.YtmfmbmlfdlebfaaDoor

/- What every law's proof needs around its walk: the arguments read as they did wherever old memory is kept; a world for the witness; what the listed tables give. -/
namespace Go.Proofs.YtmfmbmlfdlebfaaDoor
open Go.ChangeShapes Go.WideShapes Go.ChangeAt Go.RowKit Go.Shelf

theorem own : ownKnob Tryd.prog.godebug = none := by kernel_rfl
theorem laidOut : laidOutB Tryd.prog = true := by kernel_rfl

theorem trodAll_below {H : Type} {enc : TypeId × Value → H} {P : Program} (hl : laidOutB P = true) {W W' : World} (hb : Below W.heap.size W W') :
    ∀ (ts : List TypeId) (vs : List Value) (ds : List (DataW H)) (ps : List MemPlace), (∀ t ∈ ts, P.readableRec t = true ∧ t < P.types.size) → (∀ x ∈ ps, x.block < W.heap.size) →
      DataW.TrodAll enc P W 0 (fun _ => true) true ts vs ds ps → DataW.TrodAll enc P W' 0 (fun b => decide (b < W.heap.size)) true ts vs ds ps
  | [], vs, ds, ps, _, _, h => by
    obtain ⟨rfl, rfl, rfl⟩ := trodAll_nil h
    exact trodAll_mk0
  | t :: ts, vs, ds, ps, ht, hp, h => by
    obtain ⟨v0, vs0, d0, ds0, p0, q0, rfl, rfl, rfl, h0, r0⟩ := trodAll_cons h
    exact trodAll_cons_mk (Below.trod hl (ht t (by simp)).1 (ht t (by simp)).2 h0 hb (fun x hx => hp x (by simp [hx]))) (trodAll_below hl hb ts vs0 ds0 q0 (fun t' h' => ht t' (by simp [h'])) (fun x hx => hp x (by simp [hx])) r0)

theorem cells32 : Tryd.prog.cellsOf 21 = 1 := by kernel_rfl
set_option maxRecDepth 100000 in
/-- An argument of type []int32 reads as a list of numbers of that kind. -/
theorem runs_of_arg {H : Type} {enc : TypeId × Value → H} {W : World} {base : Nat} {v : Value} {d : DataW H} {p : List MemPlace} (hv : Value.okWide Tryd.prog W .any base 71 v) (h : DataW.Trod enc Tryd.prog W 0 (fun _ => true) true 71 v d p) :
    ∃ a : List Int, Runs W v a ∧ ∀ x ∈ a, -2147483648 ≤ x ∧ x ≤ 2147483647 := by
  obtain ⟨a0, len, cap, rfl⟩ := okWide_slice Tryd.underlying71 hv
  obtain ⟨fuel, hf⟩ := h
  rcases open_ints Tryd.underlying71 Tryd.underlying21 cells32 hf with ⟨hcs, _⟩ | ⟨a, len', cap', zs, hcs, _, hl, hm, hz, _, hcell, hwz⟩
  · have e : Value.slice a0 len cap = .slice none 0 0 := by simpa [Value.cells] using hcs
    rw [e]
    exact ⟨[], Runs.nil_ _, by simp⟩
  · have e : Value.slice a0 len cap = .slice (some a) len' cap' := by simpa [Value.cells] using hcs
    rw [e]
    simp only [if_true] at hz
    have hlen : (zs.take len').length = len' := by rw [List.length_take]; omega
    refine ⟨zs.take len', ⟨some a, cap', by rw [hlen], by omega, ⟨hm, fun h => by cases h⟩, fun h0 => ?_⟩, fun x hx => bounds_i32 (hwz x (List.mem_of_mem_take hx))⟩
    obtain ⟨b, off, rfl, hc⟩ := ints_at hcell (by omega)
    have h00 := hc 0 (by omega)
    refine ⟨b, off, rfl, ?_, fun j hj => ?_⟩
    · rcases Nat.lt_or_ge b W.heap.size with h' | h'
      · exact h'
      · simp [World.cell?, Array.getElem?_eq_none h'] at h00
    · rw [hc j (by omega)]
      simp only [List.getD_eq_getElem?_getD, List.getElem?_take]
      rw [if_pos (by omega)]

/-- A law that answered true and changed nothing old has its row's post. -/
theorem law_post {H : Type} {enc : TypeId × Value → H} {P : Program} {f : Func} {s : ChangeSpec} {W W' : World} {args : Array Value} {ds gs : List (DataW H)} {before : List MemPlace} {tb : TypeId}
    (hl : laidOutB P = true) (hts : ∀ t ∈ f.params.toList, P.readableRec t = true ∧ t < P.types.size) (hW : DataW.Whole enc P f.params.toList s.vars false W args.toList ds gs before) (hb : Below W.heap.size W W')
    (hbool : P.underlying tb = some .bool) (hrt : f.resultTypes = #[tb]) (hs : s.vars = []) (h1 : (s.fn H (ds ++ gs)).results = [.lit (.bool true)]) (h2 : (s.fn H (ds ++ gs)).args = ds) (h3 : (s.fn H (ds ++ gs)).vars = []) :
    s.post enc P f false true false false W args (.bool true) W' := by
  have hW' := hW
  obtain ⟨p, q, hA, hV, hbef, _, _⟩ := hW
  have hlt : ∀ x ∈ p, x.block < W.heap.size := fun x hx => hW'.lt x (by rw [hbef]; simp [hx])
  refine ⟨ds, gs, before, [], p, [], hW', ?_, ?_, ?_, hb.frame _, fun h => by cases h⟩
  · rw [hrt, h1]; exact trodAll_cons_mk (shut_bool hbool _) trodAll_mk0
  · rw [h2]; exact trodAll_below hl hb _ _ _ _ hts hlt hA
  · rw [hs, h3]; rfl

/-- The list of variables that every row of this seat bears. -/
def laidList : List (String × DataW Unit) := [("unicode/utf8.acceptRanges", Rows.laid_unicode_utf8_acceptRanges), ("unicode/utf8.first", Rows.laid_unicode_utf8_first)]
theorem accept_same : (Rows.laid_unicode_utf8_acceptRanges : DataW Unit) = Lib.acceptData := by kernel_rfl
theorem first_same : Rows.laid_unicode_utf8_first = Lib.firstData := by kernel_rfl

theorem okw_of_laid {W : World} (hL : laidMetH Tryd.prog laidList W) : Okw W := by
  have h : laidMet Tryd.prog laidList W := hL
  have ht : Tabs W := utf8Tabs_of_readsT (U8Types.of260 Tryd.lays260) ⟨by kernel_rfl, by kernel_rfl, by kernel_rfl, by kernel_rfl, by kernel_rfl, by kernel_rfl, by kernel_rfl⟩
    (by have := Lib.laidMet.reads h (n := "unicode/utf8.first") (d := Rows.laid_unicode_utf8_first) (by simp [laidList]); rwa [first_same] at this)
    (by have := Lib.laidMet.reads h (n := "unicode/utf8.acceptRanges") (d := Rows.laid_unicode_utf8_acceptRanges) (by simp [laidList]); rwa [accept_same] at this)
  have lt : ∀ {a : Addr} {v : Value}, W.cell? a = some v → a.block < W.heap.size := fun {a v} hc => by
    rcases Nat.lt_or_ge a.block W.heap.size with h' | h'
    · exact h'
    · simp [World.cell?, Array.getElem?_eq_none h'] at hc
  exact ⟨ht, lt (ht.1 0 (by decide)), lt (ht.2 0 (by decide)).1⟩

def putCells (cs : Array Value) : Obj → Obj
  | .cells _ t frozen => .cells cs t frozen
  | o => o
/-- A world for the witness: the settled one, the two tables as their initialisers lay them. -/
noncomputable def laidWorld (os : Os) : World :=
  { World.holding Tryd.prog os ⟨#[], #[], []⟩ with heap := ((World.holding Tryd.prog os ⟨#[], #[], []⟩).heap.modify 0 (putCells (Lib.firstTab.map fun z => Value.int .u8 z).toArray)).modify 1 (putCells ((List.range 16).flatMap fun i => [Value.int .u8 (Lib.accLo i), Value.int .u8 (Lib.accHi i)]).toArray) }
theorem laid_met (os : Os) (args : Array Value) : laidMet Tryd.prog laidList ((laidWorld os).forCall (fun _ _ => 0) ⟨#[], args, []⟩).memory :=
  laidMet_of_run' 8 (by kernel_rfl) (by kernel_rfl)
end Go.Proofs.YtmfmbmlfdlebfaaDoor

/- Arguments of layer 6 opened: a slice of blocks, a slice of pairs; how long their texts may be. -/
namespace Go.Proofs.YtmfmbmlfdlebfaaDoor
open Go.ChangeShapes Go.WideShapes Go.ChangeAt Go.RowKit Go.Shelf Go.Deep Go.Joins
set_option linter.unusedSimpArgs false
set_option linter.unusedVariables false

theorem blkFields : ∃ f0 f1 f2 : Field, Tryd.prog.underlying 43 = some (.struct #[f0, f1, f2]) ∧ f0.type = 9 ∧ f0.offset = 0 ∧ f1.type = 9 ∧ f1.offset = 1 ∧ f2.type = 3 ∧ f2.offset = 2 :=
  ⟨_, _, _, Tryd.underlying43, rfl, rfl, rfl, rfl, rfl, rfl⟩
theorem prFields : ∃ f0 f1 : Field, Tryd.prog.underlying 38 = some (.struct #[f0, f1]) ∧ f0.type = 9 ∧ f0.offset = 0 ∧ f1.type = 9 ∧ f1.offset = 1 :=
  ⟨_, _, Tryd.underlying38, rfl, rfl, rfl, rfl⟩
theorem cellsBlk6 : Tryd.prog.cellsOf 43 = 3 := by kernel_rfl
theorem cellsPr6 : Tryd.prog.cellsOf 38 = 2 := by kernel_rfl
theorem cellsInt6 : Tryd.prog.cellsOf 3 = 1 := by kernel_rfl
theorem cellsStr6 : Tryd.prog.cellsOf 9 = 1 := by kernel_rfl
def blkD {H : Type} (b : Blk) : DataW H := .agg [.lit (.string b.1.data.toList), .lit (.string b.2.1.data.toList), .lit (.int .i64 b.2.2)]
def prD {H : Type} (p : Pr) : DataW H := .agg [.lit (.string p.1.data.toList), .lit (.string p.2.data.toList)]

set_option maxRecDepth 100000 in
theorem blk_of_cells {H : Type} {enc : TypeId × Value → H} {W : World} {fuel : Nat} {cs : List Value} {x : DataW H × List MemPlace} (h : DataW.trod enc Tryd.prog W 0 (fun _ => true) true fuel 43 cs = some x) : ∃ p : Blk, cs = blkCell p ∧ x.1 = blkD p := by
  obtain ⟨f0, f1, f2, hu, t0, o0, t1, o1, t2, o2⟩ := blkFields
  obtain ⟨xs, n, _, hx, hlen, hxl, hf⟩ := DataW.trod_struct hu h
  rw [cellsBlk6] at hlen
  have h0 := hf 0 f0 rfl
  have h1 := hf 1 f1 rfl
  have h2 := hf 2 f2 rfl
  rw [t0, o0, cellsStr6] at h0
  rw [t1, o1, cellsStr6] at h1
  rw [t2, o2, cellsInt6] at h2
  have hx3 : xs.length = 3 := hxl
  match cs, hlen, xs, hx3 with
  | [c0, c1, c2], _, [x0, x1, x2], _ =>
    obtain ⟨a0, e0, d0, _⟩ := DataW.trod_string Tryd.underlying9 h0
    obtain ⟨a1, e1, d1, _⟩ := DataW.trod_string Tryd.underlying9 h1
    obtain ⟨a2, e2, d2, _⟩ := DataW.trod_int Tryd.underlying3 h2
    simp at e0 e1 e2 d0 d1 d2
    refine ⟨(a0, a1, a2), by rw [e0, e1, e2]; rfl, ?_⟩
    rw [hx]
    simp [blkD, d0, d1, d2]
set_option maxRecDepth 100000 in
theorem pr_of_cells {H : Type} {enc : TypeId × Value → H} {W : World} {fuel : Nat} {cs : List Value} {x : DataW H × List MemPlace} (h : DataW.trod enc Tryd.prog W 0 (fun _ => true) true fuel 38 cs = some x) : ∃ p : Pr, cs = prCell p ∧ x.1 = prD p := by
  obtain ⟨f0, f1, hu, t0, o0, t1, o1⟩ := prFields
  obtain ⟨xs, n, _, hx, hlen, hxl, hf⟩ := DataW.trod_struct hu h
  rw [cellsPr6] at hlen
  have h0 := hf 0 f0 rfl
  have h1 := hf 1 f1 rfl
  rw [t0, o0, cellsStr6] at h0
  rw [t1, o1, cellsStr6] at h1
  have hx3 : xs.length = 2 := hxl
  match cs, hlen, xs, hx3 with
  | [c0, c1], _, [x0, x1], _ =>
    obtain ⟨a0, e0, d0, _⟩ := DataW.trod_string Tryd.underlying9 h0
    obtain ⟨a1, e1, d1, _⟩ := DataW.trod_string Tryd.underlying9 h1
    simp at e0 e1 d0 d1
    refine ⟨(a0, a1), by rw [e0, e1]; rfl, ?_⟩
    rw [hx]
    simp [prD, d0, d1]

/-- A slice of structs, read. -/
theorem gruns_of_trod {H : Type} {enc : TypeId × Value → H} {W : World} {fuel : Nat} {v : Value} {x : DataW H × List MemPlace} {tS tE : TypeId} {α : Type} (z : α) {cell : α → List Value} {dat : α → DataW H} {k : Nat} (hk0 : 0 < k) (hU : Tryd.prog.underlying tS = some (.slice tE)) (hcl : Tryd.prog.cellsOf tE = k) (hln : ∀ p, (cell p).length = k)
    (hone : ∀ {fuel : Nat} {cs : List Value} {x : DataW H × List MemPlace}, DataW.trod enc Tryd.prog W 0 (fun _ => true) true fuel tE cs = some x → ∃ p, cs = cell p ∧ x.1 = dat p)
    (h : DataW.trod enc Tryd.prog W 0 (fun _ => true) true fuel tS [v] = some x) : ∃ l : List α, GRuns cell k W v l ∧ ((x.1 = .nil ∧ l = []) ∨ ∃ sp, x.1 = .slice (l.map dat) sp) := by
  rcases open_slice hU h with ⟨h0, hx⟩ | ⟨a, len, cap, m, n, D, Pl, hcs, _, hl, hm, hmm, hx, hi⟩
  · obtain rfl : v = .slice none 0 0 := by simpa using h0
    exact ⟨[], GRuns.nil_ _ _ _, .inl ⟨by rw [hx], rfl⟩⟩
  · obtain rfl : v = .slice (some a) len cap := by simpa using hcs
    simp only [if_true] at hmm
    subst hmm
    have hex : ∀ i, i < len → ∃ p : α, (∀ j, j < k → W.cell? (a.add (i * k + j)) = (cell p)[j]?) ∧ D i = dat p := by
      intro i hil
      obtain ⟨cs', hc, ht⟩ := hi i (by omega)
      rw [hcl] at hc
      obtain ⟨p, rfl, hd⟩ := hone ht
      obtain ⟨_, _, hat⟩ := World.cells?_some hc
      exact ⟨p, fun j hj => by rw [← Go.Deep.add_add]; exact hat j hj, hd⟩
    obtain ⟨f, hf⟩ : ∃ f : Nat → α, ∀ i, i < len → (∀ j, j < k → W.cell? (a.add (i * k + j)) = (cell (f i))[j]?) ∧ D i = dat (f i) := by
      refine ⟨fun i => if hi : i < len then Classical.choose (hex i hi) else z, fun i hi => ?_⟩
      simp only [hi, dif_pos]
      exact Classical.choose_spec (hex i hi)
    have hll : ((List.range len).map f).length = len := by simp
    refine ⟨(List.range len).map f, ⟨some a, _, by rw [hll], by rw [hll]; exact hl, ⟨hm, fun h => by cases h⟩, fun hp => ?_⟩, .inr ⟨(List.range (m - len)).map fun j => D (len + j), ?_⟩⟩
    · rw [hll] at hp
      obtain ⟨b, off, spot⟩ := a
      have hc0 : 0 < (cell (f 0)).length := by rw [hln]; exact hk0
      have h00 := (hf 0 hp).1 0 hk0
      rw [List.getElem?_eq_getElem hc0] at h00
      have hspot : spot = none := by simpa [Addr.add] using World.cell?_spot h00
      subst hspot
      have hblt : b < W.heap.size := by
        have := World.block_lt_of_cell? W _ h00
        simpa [Addr.add] using this
      refine ⟨b, off, rfl, hblt, fun j x hj i u hu => ?_⟩
      have hjl : j < len := by have := (List.getElem?_eq_some_iff.1 hj).1; rwa [hll] at this
      have hxe : f j = x := by
        rw [List.getElem?_map, List.getElem?_range hjl] at hj
        simpa using hj
      have hik : i < k := by have := (List.getElem?_eq_some_iff.1 hu).1; rwa [hln] at this
      have h1 := (hf j hjl).1 i hik
      rw [hxe, hu, addr_add] at h1
      rw [Nat.add_assoc]
      exact h1
    · rw [hx]
      have e : (List.range len).map D = ((List.range len).map f).map dat := by
        rw [List.map_map]
        exact List.map_congr_left (fun i hi => (hf i (List.mem_range.1 hi)).2)
      rw [e]
set_option maxRecDepth 100000 in
theorem blks_of_arg {H : Type} {enc : TypeId × Value → H} {W : World} {base : Nat} {v : Value} {d : DataW H} {p : List MemPlace} (hv : Value.okWide Tryd.prog W .any base 22 v) (h : DataW.Trod enc Tryd.prog W 0 (fun _ => true) true 22 v d p) :
    ∃ l : List Blk, BRuns W v l ∧ ((d = .nil ∧ l = []) ∨ ∃ sp, d = .slice (l.map blkD) sp) := by
  obtain ⟨a0, len, cap, rfl⟩ := okWide_slice Tryd.underlying22 hv
  obtain ⟨fuel, hf⟩ := h
  exact gruns_of_trod (ByteArray.empty, ByteArray.empty, 0) (by decide) Tryd.underlying22 cellsBlk6 (fun _ => rfl) (fun h => blk_of_cells h) hf
set_option maxRecDepth 100000 in
theorem prs_of_arg {H : Type} {enc : TypeId × Value → H} {W : World} {base : Nat} {v : Value} {d : DataW H} {p : List MemPlace} (hv : Value.okWide Tryd.prog W .any base 36 v) (h : DataW.Trod enc Tryd.prog W 0 (fun _ => true) true 36 v d p) :
    ∃ l : List Pr, PRuns W v l ∧ ((d = .nil ∧ l = []) ∨ ∃ sp, d = .slice (l.map prD) sp) := by
  obtain ⟨a0, len, cap, rfl⟩ := okWide_slice Tryd.underlying36 hv
  obtain ⟨fuel, hf⟩ := h
  exact gruns_of_trod (ByteArray.empty, ByteArray.empty) (by decide) Tryd.underlying36 cellsPr6 (fun _ => rfl) (fun h => pr_of_cells h) hf

/-- The form's own bound on each text. -/
theorem blks_weights {H : Type} {d : DataW H} {l : List Blk} (hd : (d = .nil ∧ l = []) ∨ ∃ sp, d = .slice (l.map blkD) sp) (hw : (DataW.weights Tryd.prog 22 d).all (· ≤ reachBytes) = true) : szM l := by
  have h3 : reachBytes = 140737488351232 := by decide
  rcases hd with ⟨_, rfl⟩ | ⟨sp, rfl⟩
  · exact fun b hb => by simp at hb
  simp only [DataW.weights, Tryd.underlying22, List.all_cons, List.all_append, Bool.and_eq_true] at hw
  have hw2 := hw.2.1
  clear hw
  induction l with
  | nil => exact fun b hb => by simp at hb
  | cons a l ih =>
    simp only [List.map_cons, DataW.weightsAll, List.all_append, Bool.and_eq_true] at hw2
    have h1 := hw2.1
    simp only [blkD, DataW.weights, Tryd.underlying43, List.map_cons, List.map_nil, DataW.weightsEach, List.all_append, List.all_cons, List.all_nil, Bool.and_true, Bool.and_eq_true, decide_eq_true_eq, h3] at h1
    intro b hb
    rcases List.mem_cons.1 hb with rfl | hb
    · rw [Lib.size_eq, Lib.size_eq]; omega
    · exact ih hw2.2 b hb
theorem prs_weights {H : Type} {d : DataW H} {l : List Pr} (hd : (d = .nil ∧ l = []) ∨ ∃ sp, d = .slice (l.map prD) sp) (hw : (DataW.weights Tryd.prog 36 d).all (· ≤ reachBytes) = true) : szP l := by
  have h3 : reachBytes = 140737488351232 := by decide
  rcases hd with ⟨_, rfl⟩ | ⟨sp, rfl⟩
  · exact fun b hb => by simp at hb
  simp only [DataW.weights, Tryd.underlying36, List.all_cons, List.all_append, Bool.and_eq_true] at hw
  have hw2 := hw.2.1
  clear hw
  induction l with
  | nil => exact fun b hb => by simp at hb
  | cons a l ih =>
    simp only [List.map_cons, DataW.weightsAll, List.all_append, Bool.and_eq_true] at hw2
    have h1 := hw2.1
    simp only [prD, DataW.weights, Tryd.underlying38, List.map_cons, List.map_nil, DataW.weightsEach, List.all_append, List.all_cons, List.all_nil, Bool.and_true, Bool.and_eq_true, decide_eq_true_eq, h3] at h1
    intro b hb
    rcases List.mem_cons.1 hb with rfl | hb
    · rw [Lib.size_eq, Lib.size_eq]; omega
    · exact ih hw2.2 b hb
/-- The second form's bound. -/
theorem blks_bulk {H : Type} {d : DataW H} {l : List Blk} (hd : (d = .nil ∧ l = []) ∨ ∃ sp, d = .slice (l.map blkD) sp) (hw : Rows.uptoBulk d ≤ 1048576) : l.length ≤ 2000000 ∧ szL l := by
  rcases hd with ⟨_, rfl⟩ | ⟨sp, rfl⟩
  · exact ⟨by simp, fun b hb => by simp at hb⟩
  simp only [Rows.uptoBulk] at hw
  have key : ∀ l : List Blk, l.length ≤ Rows.uptoBulkAll (l.map (blkD (H := H))) ∧ ∀ b ∈ l, b.1.size ≤ Rows.uptoBulkAll (l.map (blkD (H := H))) ∧ b.2.1.size ≤ Rows.uptoBulkAll (l.map (blkD (H := H))) := by
    intro l
    induction l with
    | nil => exact ⟨by simp, fun b hb => by simp at hb⟩
    | cons a l ih =>
      have e : Rows.uptoBulkAll ((a :: l).map (blkD (H := H))) = a.1.data.toList.length + 1 + (a.2.1.data.toList.length + 1 + (1 + 0)) + 1 + Rows.uptoBulkAll (l.map (blkD (H := H))) := rfl
      rw [e, List.length_cons]
      refine ⟨by have := ih.1; omega, fun b hb => ?_⟩
      rcases List.mem_cons.1 hb with rfl | hb
      · rw [Lib.size_eq, Lib.size_eq]; omega
      · have := ih.2 b hb; omega
  obtain ⟨k1, k2⟩ := key l
  exact ⟨by omega, fun b hb => by have := k2 b hb; omega⟩
end Go.Proofs.YtmfmbmlfdlebfaaDoor

