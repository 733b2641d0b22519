/- Texts that several proofs of this seat share, one behind the other: XRen XNor YLaw JLaw UState UMade UAlive UCnts. -/
import Derived.Test.YtljaibhhkjapmaaDoorPk6
import Derived.BigRegion
import Derived.Test.YtljaibhhkjapmaaDoorPk19
import Derived.Test.YtljaibhhkjapmaaDoorPk15
import Derived.Test.YtljaibhhkjapmaaDoorPk17
import Derived.Test.YtljaibhhkjapmaaDoorPk10
import Derived.Test.YtljaibhhkjapmaaDoorPk18
/- lexicon.renewed: the same words, in memory of the call's own. -/
namespace Go.Proofs.YtljaibhhkjapmaaDoor
open Go.RowKit Go.Shelf
set_option linter.unusedSimpArgs false
set_option linter.unusedVariables false

/-- A word in its box, and all that is old. -/
structure XBox (D : World) (c : Nat) (x : Wrd) (W : World) : Prop where
  b0 : W.cell? ⟨c, 0, none⟩ = some (.string x.1)
  b1 : W.cell? ⟨c, 1, none⟩ = some (.int .i64 x.2)
  lt : c < W.heap.size
  bel : Below D.heap.size D W
theorem XBox.step {D : World} {c : Nat} {x : Wrd} {W W' : World} (h : XBox D c x W) (hb : Below W.heap.size W W') : XBox D c x W' :=
  ⟨(hb.cell (p := ⟨c, _, none⟩) h.lt).trans h.b0, (hb.cell (p := ⟨c, _, none⟩) h.lt).trans h.b1, Nat.lt_of_lt_of_le h.lt hb.size, h.bel.trans (hb.mono h.bel.size)⟩

end Go.Proofs.YtljaibhhkjapmaaDoor

/- lexicon.Normal: words that may be, each once, in order; Best: the most frequent ones. -/
namespace Go.Proofs.YtljaibhhkjapmaaDoor
open Go.RowKit Go.Shelf Go.Lib
set_option linter.unusedSimpArgs false
set_option linter.unusedVariables false

end Go.Proofs.YtljaibhhkjapmaaDoor

/- great, alive of layer 9: which words are looked at; the document's example. -/
namespace Go.Proofs.YtljaibhhkjapmaaDoor
open Go.RowKit Go.Shelf
set_option linter.unusedSimpArgs false
set_option linter.unusedVariables false

/-- Texts together. -/
def smW (l : List Wrd) : Nat := (l.map (fun b => b.1.size)).sum
theorem smW_take {l : List Wrd} (k : Nat) (x : Wrd) (h : l[k]? = some x) : smW (l.take (k + 1)) = smW (l.take k) + x.1.size := by
  rw [List.take_add_one, h]; simp [smW]
theorem smW_mem (l : List Wrd) : ∀ b ∈ l, b.1.size ≤ smW l := by
  induction l with
  | nil => simp
  | cons a l ih =>
    intro b hb
    have e : smW (a :: l) = a.1.size + smW l := by simp [smW]
    rw [e]
    rcases List.mem_cons.1 hb with rfl | hb
    · omega
    · have := ih b hb; omega
theorem smW_le {l : List Wrd} {c : Nat} (h : ∀ b ∈ l, b.1.size ≤ c) (k : Nat) : smW (l.take k) ≤ k * c := by
  induction k with
  | zero => simp [smW]
  | succ k ih =>
    cases hx : l[k]? with
    | none =>
      rw [List.take_add_one, hx]
      simp only [Option.toList_none, List.append_nil]
      rw [Nat.succ_mul]; omega
    | some x =>
      have := h x (List.mem_of_getElem? hx)
      rw [smW_take k x hx, Nat.succ_mul]; omega
/-- Texts as long as a text may be. -/
def szMW (l : List Wrd) : Prop := ∀ b ∈ l, b.1.size ≤ 140737488355328
/-- Whether words are more than are looked at. -/
def grW (l : List Wrd) : Bool := decide (500 < l.length) || decide (8000 < smW l)
theorem grW_no {l : List Wrd} (h : grW l = false) : l.length ≤ 500 ∧ szW l := by
  unfold grW at h
  rw [Bool.or_eq_false_iff] at h
  have h1 := of_decide_eq_false h.1
  have h2 := of_decide_eq_false h.2
  exact ⟨by omega, fun b hb => by have := smW_mem l b hb; omega⟩
theorem ex9 : worE [(⟨#[98]⟩, 1), (⟨#[97]⟩, 2), (⟨#[98]⟩, 3)] = 0 ∧ worS [(⟨#[98]⟩, 1), (⟨#[97]⟩, 2), (⟨#[98]⟩, 3)] = [(⟨#[97]⟩, 2), (⟨#[98]⟩, 4)] := by
  decide +kernel
theorem ex9c : wchk (⟨#[]⟩, 0) = 4 := by decide +kernel
end Go.Proofs.YtljaibhhkjapmaaDoor

/- great, alive, walk of layer 10: which words are looked at; the document's example; where runes lead from the first state on. The document's Place. -/
namespace Go.Proofs.YtljaibhhkjapmaaDoor
open Go.RowKit Go.Shelf
attribute [local go_sem] Oper.semAt_some
set_option linter.unusedSimpArgs false
set_option linter.unusedVariables false

/-- Whether words are more than are looked at. -/
def gr10 (l : List Wrd) : Bool := decide (60 < l.length) || decide (500 < smW l)
theorem gr10_no {l : List Wrd} (h : gr10 l = false) : l.length ≤ 60 ∧ smW l ≤ 500 := by
  unfold gr10 at h
  rw [Bool.or_eq_false_iff] at h
  have h1 := of_decide_eq_false h.1
  have h2 := of_decide_eq_false h.2
  exact ⟨by omega, by omega⟩
set_option maxRecDepth 100000 in
set_option maxHeartbeats 4000000 in
theorem great10_det (u : Value) (l : List Wrd) (w : World) (hu : WRuns w u l) (hz : szMW l) :
    Calls Tryd.prog 11 #[u] w fun e w' => e = .returned (.bool (gr10 l)) ∧ Below w.heap.size w w' := by
  have hgr : gr10 l = (decide (60 < l.length) || decide (500 < smW l)) := rfl
  obtain ⟨res, hres⟩ : ∃ z, gr10 l = z := ⟨_, rfl⟩
  rw [hres] at hgr ⊢
  have HGR := Lib.hid hgr; clear hgr hres
  have hcm : l.length ≤ maxLen := by
    obtain ⟨_, c, _, h1, h2, _⟩ := hu
    exact Nat.le_trans h1 h2.1
  obtain ⟨A, c, e⟩ := hu.slice
  subst e
  have HU := Lib.hid hu; clear hu
  obtain ⟨n, hn⟩ : ∃ n, l.length = n := ⟨_, rfl⟩
  rw [hn] at HU hcm ⊢
  have HN := Lib.hid hn
  unfold maxLen at hcm
  by_cases hbig : 60 < n
  · clear hz hn
    go_enter Tryd.func11, Tryd.ntmps11
    go_wp2
    go_loopw [3, 8] (fun s3 s8 wr => ∃ (k : Nat) (s : Int), k ≤ n ∧ s8 = .int .i64 k ∧ s3 = .int .i64 s ∧ Hid (Below w.heap.size w wr)) (fun _ s8 _ => n - (RowKit.intOf s8).toNat)
    case atStart => exact ⟨0, 0, Nat.zero_le _, rfl, rfl, Lib.hid (Below.refl _ _)⟩
    case round =>
      obtain ⟨k, s, hkn, rfl, rfl, BW⟩ := hrel
      by_cases hk : k < n
      · have k1 : (k : Int) < (n : Int) := by omega
        obtain ⟨⟨p1, p2⟩, hp⟩ : ∃ p, l[k]? = some p := ⟨_, List.getElem?_eq_getElem (by rw [HN.out]; exact hk)⟩
        obtain ⟨b, o, rfl, _, hc⟩ := (HU.out.below BW.out).cells HN.out (by omega)
        obtain ⟨g0, g1⟩ := wrd_cells hc hp
        simp only at g0 g1
        have hal : Hid (Below w.heap.size w (wr.alloc (.cells #[.string p1, .int .i64 p2] 72))) := Lib.hid (BW.out.alloc BW.out.size _)
        clear hc hp
        go_wp2
        exact ⟨⟨k + 1, _, by omega, by go_num, rfl, hal⟩, by simp [RowKit.intOf]; omega⟩
      · obtain rfl : k = n := by omega
        have h5 : (60 : Int) < (k : Int) := by omega
        have hr : Hid (res = true) := Lib.hid (by rw [HGR.out, HN.out, decide_eq_true hbig]; rfl)
        go_wp2
        go_ret
        exact ⟨by rw [hr.out]; rfl, BW.out⟩
  · have hb' := smW_le (l := l) (c := 140737488355328) hz
    obtain ⟨sm, hsm⟩ : ∃ f, f = fun k => smW (l.take k) := ⟨_, rfl⟩
    have hst : ∀ k x, l[k]? = some x → sm (k + 1) = sm k + x.1.size := fun k x hx => by rw [hsm]; exact smW_take k x hx
    have hbd : ∀ k, sm k ≤ k * 140737488355328 := fun k => by rw [hsm]; exact hb' k
    have h0 : sm 0 = 0 := by rw [hsm]; simp [smW]
    have hfin : smW l = sm n := by
      rw [hsm]
      simp only
      rw [List.take_of_length_le (by rw [hn]; exact Nat.le_refl _)]
    have ST := Lib.hid hst; have BD := Lib.hid hbd; have HF := Lib.hid hfin; have HZ := Lib.hid hz
    clear hst hbd hfin hsm hb' hz hn
    go_enter Tryd.func11, Tryd.ntmps11
    go_wp2
    go_loopw [3, 8] (fun s3 s8 wr => ∃ k : Nat, k ≤ n ∧ s8 = .int .i64 k ∧ s3 = .int .i64 (sm k : Nat) ∧ Hid (Below w.heap.size w wr)) (fun _ s8 _ => n - (RowKit.intOf s8).toNat)
    case atStart => exact ⟨0, Nat.zero_le _, rfl, by rw [h0]; rfl, Lib.hid (Below.refl _ _)⟩
    case round =>
      obtain ⟨k, hkn, rfl, rfl, BW⟩ := hrel
      have bk := BD.out k
      obtain ⟨s, es⟩ : ∃ s, sm k = s := ⟨_, rfl⟩
      rw [es] at bk ⊢
      have HES := Lib.hid es; clear es
      by_cases hk : k < n
      · have k1 : (k : Int) < (n : Int) := by omega
        obtain ⟨⟨p1, p2⟩, hp⟩ : ∃ p, l[k]? = some p := ⟨_, List.getElem?_eq_getElem (by rw [HN.out]; exact hk)⟩
        obtain ⟨b, o, rfl, _, hc⟩ := (HU.out.below BW.out).cells HN.out (by omega)
        obtain ⟨g0, g1⟩ := wrd_cells hc hp
        simp only at g0 g1
        have hs1 := ST.out k _ hp
        have hz1 := HZ.out _ (List.mem_of_getElem? hp)
        simp only at hs1 hz1
        rw [HES.out] at hs1
        have HS1 := Lib.hid hs1
        have w2 : IntKind.i64.wrap ((s : Int) + (p1.size : Int)) = (s : Int) + (p1.size : Int) := by rw [IntKind.wrap_i64]; omega
        have hal : Hid (Below w.heap.size w (wr.alloc (.cells #[.string p1, .int .i64 p2] 72))) := Lib.hid (BW.out.alloc BW.out.size _)
        clear hc hp hs1
        go_wp2
        exact ⟨⟨k + 1, by omega, by go_num, by rw [HS1.out]; simp, hal⟩, by simp [RowKit.intOf]; omega⟩
      · obtain rfl : k = n := by omega
        have h5 : ¬ (60 : Int) < (k : Int) := by omega
        by_cases h8 : 500 < s
        · have h8' : (500 : Int) < (s : Int) := by omega
          have hr : Hid (res = true) := Lib.hid (by rw [HGR.out, HF.out, HES.out, decide_eq_true h8, Bool.or_true])
          go_wp2
          go_ret
          exact ⟨by rw [hr.out]; rfl, BW.out⟩
        · have h8' : ¬ (500 : Int) < (s : Int) := by omega
          have hr : Hid (res = false) := Lib.hid (by rw [HGR.out, HF.out, HES.out, HN.out, decide_eq_false h8, decide_eq_false hbig]; rfl)
          go_wp2
          go_ret
          exact ⟨by rw [hr.out]; rfl, BW.out⟩
/-- The document's example. -/
def Alive10 : Prop := ∀ w, Okw w → Calls Tryd.prog 10 #[] w fun e w' => e = .returned (.bool true) ∧ Below w.heap.size w w'
def L4 : List Wrd := [(⟨#[97, 109]⟩, 1), (⟨#[97, 110]⟩, 1), (⟨#[105, 109]⟩, 1), (⟨#[105, 110]⟩, 1)]
theorem ex10 : wisS L4 = 0 ∧ (staQ (rnW L4)).length = 3 ∧ (edK (staQ (rnW L4)) (staQ (rnW L4)).length).length = 4 := by
  decide +kernel
set_option maxRecDepth 100000 in
set_option maxHeartbeats 4000000 in
theorem alive10_any : Alive10 := by
  intro w h
  have r0 := wrds_lit w L4 (by decide)
  change WRuns (w.alloc (.cells #[.string ⟨#[97, 109]⟩, .int .i64 1, .string ⟨#[97, 110]⟩, .int .i64 1, .string ⟨#[105, 109]⟩, .int .i64 1, .string ⟨#[105, 110]⟩, .int .i64 1] 72)) (.slice (some ⟨w.heap.size, 0, none⟩) 4 4) _ at r0
  have b0 := bel_one w (.cells #[.string ⟨#[97, 109]⟩, .int .i64 1, .string ⟨#[97, 110]⟩, .int .i64 1, .string ⟨#[105, 109]⟩, .int .i64 1, .string ⟨#[105, 110]⟩, .int .i64 1] 72)
  obtain ⟨wa, hwa⟩ : ∃ z, w.alloc (.cells #[.string ⟨#[97, 109]⟩, .int .i64 1, .string ⟨#[97, 110]⟩, .int .i64 1, .string ⟨#[105, 109]⟩, .int .i64 1, .string ⟨#[105, 110]⟩, .int .i64 1] 72) = z := ⟨_, rfl⟩
  rw [hwa] at r0 b0
  have c1 := newd_any (.slice (some ⟨w.heap.size, 0, none⟩) 4 4) L4 wa (h.below b0) r0 (by decide) (fun b hb => by
    simp only [L4, List.mem_cons, List.mem_nil_iff, or_false] at hb
    rcases hb with rfl | rfl | rfl | rfl <;> (show _ ≤ 2000000; decide))
  have c2 := fun w => next_nil 0 97 w
  have c3 := fun w d (hd : DgAt w d (staQ (rnW L4)) L4) => states_any w d _ _ hd (dgOk ex10.1)
  have c4 := fun w d (hd : DgAt w d (staQ (rnW L4)) L4) => edges_any w d _ _ hd
  have c5 := fun w d (hd : DgAt w d (staQ (rnW L4)) L4) => len_any w d _ _ hd
  simp only [ex10.2.1] at c3
  simp only [ex10.2.2] at c4
  have c5' : ∀ w d, DgAt w d (staQ (rnW L4)) L4 → Calls Tryd.prog 18 #[.pointer (some ⟨d, 0, none⟩)] w fun e w' => e = .returned (.int .i64 4) ∧ w' = w := c5
  have C1 := Lib.hid c1; have C2 := Lib.hid c2; have C3 := Lib.hid c3; have C4 := Lib.hid c4; have C5 := Lib.hid c5'; have HWA := Lib.hid hwa; have HB0 := Lib.hid b0
  have hx := Lib.hid ex10.1
  clear c1 c2 c3 c4 c5 c5' hwa b0 r0
  go_enter Tryd.func10, Tryd.ntmps10
  go_wp2_with fail
  rw [HWA.out]
  refine C1.out.mono ?_
  rintro e w1 ⟨b1, hp⟩
  rcases hp with ⟨hne, _⟩ | ⟨_, d, rfl, hd⟩
  · exact absurd hx.out hne
  have B1 := Lib.hid (HB0.out.trans (b1.mono HB0.out.size)); have HD := Lib.hid hd
  clear b1 hd
  go_wp2_with fail
  refine (C2.out _).mono ?_
  rintro e w2 ⟨rfl, e2⟩
  obtain rfl := e2.symm
  go_wp2_with fail
  refine (C3.out _ d HD.out).mono ?_
  rintro e w3 ⟨rfl, e3⟩
  obtain rfl := e3.symm
  go_wp2_with fail
  refine (C4.out _ d HD.out).mono ?_
  rintro e w4 ⟨rfl, e4⟩
  obtain rfl := e4.symm
  go_wp2_with fail
  refine (C5.out _ d HD.out).mono ?_
  rintro e w5 ⟨rfl, e5⟩
  obtain rfl := e5.symm
  go_wp2
  go_ret
  exact ⟨rfl, B1.out⟩

/-- Where runes lead from the first state on, and whether they lead anywhere. -/
def wlkB (W : Rst) (l : List Int) : Bool := decide (l = [] ∨ behP W l ≠ [])
def wlkV (Q : List Rst) (W : Rst) (l : List Int) : Nat := if wlkB W l = true then Q.idxOf (behP W l) else 0
/-- A word's place, out of the words. -/
theorem place_at {L : List Wrd} (hn : wisS L = 0) {i : Nat} {x : Wrd} (hx : L[i]? = some x) : isW (rnW L) x.1.data.toList ∧ plcV (rnW L) x.1.data.toList = i := by
  have hc := wall_zero.1 (wisS_facts hn).1 x (List.mem_of_getElem? hx)
  have ht : tokErr x.1.data.toList = 0 := by
    unfold wchk at hc
    split at hc
    · assumption
    · exact absurd hc (by assumption)
  have hri := rnW_rising hn
  have hrn : (rnW L)[i]? = some (rnK x.1) := by unfold rnW; rw [List.getElem?_map, hx]; rfl
  have hm : rnK x.1 ∈ rnW L := List.mem_of_getElem? hrn
  have hw : isW (rnW L) x.1.data.toList := ⟨ht, hm⟩
  refine ⟨hw, ?_⟩
  unfold plcV
  rw [if_pos hw]
  have h2 := (ahdP_word hri (p := rnK x.1)).2 hm
  show ahdP (rnW L) (rnK x.1) = i
  obtain ⟨a1, a2⟩ := List.getElem?_eq_some_iff.1 h2
  obtain ⟨b1, b2⟩ := List.getElem?_eq_some_iff.1 hrn
  rcases Nat.lt_trichotomy (ahdP (rnW L) (rnK x.1)) i with h | h | h
  · have := List.pairwise_iff_getElem.1 hri _ i a1 b1 h
    rw [a2, b2] at this
    exact absurd this (ll_irrefl _)
  · exact h
  · have := List.pairwise_iff_getElem.1 hri i _ b1 a1 h
    rw [a2, b2] at this
    exact absurd this (ll_irrefl _)
theorem place_none {L : List Wrd} (hn : wisS L = 0) {s : ByteArray} (h : ∀ x ∈ L, x.1 ≠ s) : ¬ isW (rnW L) s.data.toList := fun hw => by
  obtain ⟨h1, h2⟩ := hw
  obtain ⟨b, hb, e⟩ := (mem_rnW hn (tok_valid h1)).1 h2
  exact h b hb e
theorem z_toList_ext {a b : ByteArray} (h : a.toList = b.toList) : a = b := key_ext (by rw [← Lib.toList_data, ← Lib.toList_data]; exact h)
end Go.Proofs.YtljaibhhkjapmaaDoor

/- walk.State: where a text leads. -/
namespace Go.Proofs.YtljaibhhkjapmaaDoor
open Go.RowKit Go.Shelf
attribute [local go_sem] Oper.semAt_some
set_option linter.unusedSimpArgs false
set_option linter.unusedVariables false

/-- Why a text leads nowhere; where it leads. -/
def ustE (W : Rst) (s : List UInt8) : Int := if uE s = 0 then (if wlkB W (uS s) = true then 0 else 10) else uE s
def ustN (Q : List Rst) (W : Rst) (s : List UInt8) : Int := if uE s = 0 then (wlkV Q W (uS s) : Int) else 0
theorem ustate_no (w : World) (d : Nat) (s : ByteArray) (hO : Okw w) (hs : s.size * 4 ≤ 140737488355328) (Q : List Rst) (W : Rst) (he : uE s.data.toList ≠ 0) :
    Calls Tryd.prog 27 #[.pointer (some ⟨d, 0, none⟩), .string s] w fun e w' => e = .returned (.tuple #[.int .i64 (ustN Q W s.data.toList), .int .i64 (ustE W s.data.toList)]) ∧ Below w.heap.size w w' := by
  rw [ustN, ustE, if_neg he, if_neg he]
  have hba := bel_two w (.cells #[.int .i64 0] 3) (.cells #[.int .i64 0] 26)
  have x0 := (Boxed.new w 3 (.int .i64 0)).alloc (.cells #[.int .i64 0] 26)
  have x1 := Boxed.new (w.alloc (.cells #[.int .i64 0] 3)) 26 (.int .i64 0)
  rw [World.size_alloc] at x1
  obtain ⟨w2, hw2⟩ : ∃ z, (w.alloc (.cells #[.int .i64 0] 3)).alloc (.cells #[.int .i64 0] 26) = z := ⟨_, rfl⟩
  rw [hw2] at hba x0 x1
  have cr := uread_any d s w2 (hO.below hba) hs
  obtain ⟨er, her⟩ : ∃ z, uE s.data.toList = z := ⟨_, rfl⟩
  obtain ⟨ls, hls⟩ : ∃ z, uS s.data.toList = z := ⟨_, rfl⟩
  rw [her, hls] at cr
  rw [her] at he ⊢
  have h1 : (er == 0) = false := by simpa using he
  have h2 : (er != 0) = true := by simpa using he
  have CR := Lib.hid cr; have X0 := Lib.hid x0; have X1 := Lib.hid x1; have HW2 := Lib.hid hw2; have HBA := Lib.hid hba
  clear cr x0 x1 hw2 hba he her hls
  go_enter Tryd.func27, Tryd.ntmps27
  go_wp2_with fail
  rw [HW2.out]
  refine CR.out.mono ?_
  rintro e w3 ⟨A, c, rfl, hr, b3⟩
  have HB3 := Lib.hid (HBA.out.trans (b3.mono HBA.out.size))
  have hx0 : Boxed w3 w.heap.size 3 (.int .i64 0) := (b3.block _ X0.out.lt).trans X0.out
  have hx1 : Boxed w3 (w.heap.size + 1) 26 (.int .i64 0) := (b3.block _ X1.out.lt).trans X1.out
  have c0 := hx0.cell; have c1 := hx1.cell; have f0 := hx0.frozen; have f1 := hx1.frozen
  have l0 := hx0.lt; have l1 := hx1.lt
  have z0 := ((hx0.set (.int .i64 0)).other (show w.heap.size ≠ w.heap.size + 1 by omega) (.int .i64 er)).alloc (.cells #[.slice A ls.length c] 84)
  have z1 := ((hx1.other (show w.heap.size + 1 ≠ w.heap.size by omega) (.int .i64 0)).set (.int .i64 er)).alloc (.cells #[.slice A ls.length c] 84)
  have hbf := ((HB3.out.setCell (p := ⟨w.heap.size, 0, none⟩) (Nat.le_refl _) (.int .i64 0)).setCell (p := ⟨w.heap.size + 1, 0, none⟩) (by show w.heap.size ≤ w.heap.size + 1; omega) (.int .i64 er)).alloc (by simp; omega) (.cells #[.slice A ls.length c] 84)
  have q0 := z0.cell; have q1 := z1.cell
  have HBF := Lib.hid hbf; have Q0 := Lib.hid q0; have Q1 := Lib.hid q1
  clear z0 z1 hbf q0 q1 hx0 hx1 b3 hr
  go_wp2
  refine bodyPost_ret (v := .tuple #[.int .i64 0, .int .i64 er]) ?_ rfl ⟨rfl, HBF.out⟩
  have q0 := Q0.out; have q1 := Q1.out
  simp [results, Tryd.f27, go_sem, q0, q1]

theorem ust_leaves {n B0 B1 : Nat} {w W : World} {tmps : Array Value} {a b : Int} (h4 : tmps.getD 4 undef = .pointer (some ⟨B0, 0, none⟩)) (h5 : tmps.getD 5 undef = .pointer (some ⟨B1, 0, none⟩)) (c0 : W.cell? ⟨B0, 0, none⟩ = some (.int .i64 a)) (c1 : W.cell? ⟨B1, 0, none⟩ = some (.int .i64 b)) (hb : Below w.heap.size w W) :
    LeavesInM Fence.wide n Tryd.prog Tryd.f27 tmps (fun e w' => e = .returned (.tuple #[.int .i64 a, .int .i64 b]) ∧ Below w.heap.size w w') [] .returning W := by
  refine ⟨.tuple #[.int .i64 a, .int .i64 b], ?_, rfl, hb⟩
  have h4' : tmps[4]?.getD undef = .pointer (some ⟨B0, 0, none⟩) := by rw [← Array.getD_eq_getD_getElem?]; exact h4
  have h5' : tmps[5]?.getD undef = .pointer (some ⟨B1, 0, none⟩) := by rw [← Array.getD_eq_getD_getElem?]; exact h5
  simp [results, Tryd.f27, go_sem, h4', h5', c0, c1]
set_option maxRecDepth 100000 in
set_option maxHeartbeats 16000000 in
theorem ustate_any (w : World) (d : Nat) (L : List Wrd) (hn : wisS L = 0) (Q : List Rst) (hQ : staQ (rnW L) = Q) (h : DgAt w d Q L) (s : ByteArray) (hO : Okw w) (hs : s.size * 4 ≤ 140737488355328) :
    Calls Tryd.prog 27 #[.pointer (some ⟨d, 0, none⟩), .string s] w fun e w' => e = .returned (.tuple #[.int .i64 (ustN Q (rnW L) s.data.toList), .int .i64 (ustE (rnW L) s.data.toList)]) ∧ Below w.heap.size w w' := by
  by_cases he : uE s.data.toList = 0
  · have hll := (uE_ok he).2.1
    rw [← (uE_ok he).2.2] at hll
    have hba := bel_two w (.cells #[.int .i64 0] 3) (.cells #[.int .i64 0] 26)
    have x0 := (Boxed.new w 3 (.int .i64 0)).alloc (.cells #[.int .i64 0] 26)
    have x1 := Boxed.new (w.alloc (.cells #[.int .i64 0] 3)) 26 (.int .i64 0)
    rw [World.size_alloc] at x1
    obtain ⟨w2, hw2⟩ : ∃ z, (w.alloc (.cells #[.int .i64 0] 3)).alloc (.cells #[.int .i64 0] 26) = z := ⟨_, rfl⟩
    rw [hw2] at hba x0 x1
    have cr := uread_any d s w2 (hO.below hba) hs
    rw [ustN, ustE, if_pos he, if_pos he]
    rw [he] at cr
    obtain ⟨l, hl⟩ : ∃ z, uS s.data.toList = z := ⟨_, rfl⟩
    rw [hl] at cr hll ⊢
    obtain ⟨N, hN⟩ : ∃ z, l.length = z := ⟨_, rfl⟩
    rw [hN] at cr hll
    have hri := rnW_rising hn
    have hk := dgOk hn
    rw [hQ] at hk
    obtain ⟨W, hW⟩ : ∃ z, rnW L = z := ⟨_, rfl⟩
    rw [hW] at hQ hri ⊢
    have hgl := wayG_le l W
    have hga := wayG_all (l := l) (W := W)
    have hyes : wayG W l = N → wlkV Q W l = Q.idxOf (behP W l) ∧ (if wlkB W l = true then (0 : Int) else 10) = 0 := fun h => by
      have hwb : wlkB W l = true := by
        unfold wlkB
        exact decide_eq_true (hga.1 (by rw [hN]; exact h))
      exact ⟨by unfold wlkV; rw [if_pos hwb], if_pos hwb⟩
    have hno : wayG W l < N → wlkV Q W l = 0 ∧ (if wlkB W l = true then (0 : Int) else 10) = 10 := fun h => by
      have hwb : wlkB W l = false := by
        unfold wlkB
        refine decide_eq_false (fun h2 => ?_)
        have := hga.2 h2
        rw [hN] at this
        omega
      exact ⟨by unfold wlkV; rw [hwb]; rfl, by rw [hwb]; rfl⟩
    obtain ⟨ov, hov⟩ : ∃ z, wlkV Q W l = z := ⟨_, rfl⟩
    obtain ⟨oe, hoe⟩ : ∃ z, (if wlkB W l = true then (0 : Int) else 10) = z := ⟨_, rfl⟩
    rw [hov, hoe] at hyes hno ⊢
    rw [hN] at hgl
    have HYES := Lib.hid hyes; have HNO := Lib.hid hno; have HGL := Lib.hid hgl
    have CR := Lib.hid cr; have X0 := Lib.hid x0; have X1 := Lib.hid x1; have HW2 := Lib.hid hw2; have HBA := Lib.hid hba; have HD := Lib.hid h; have HN := Lib.hid hN; have HQ := Lib.hid hQ; have HR := Lib.hid hri; have HK := Lib.hid hk
    clear cr x0 x1 hw2 hba h hN hQ hri hk he hl hn hW hO hs hyes hno hov hoe hga hgl
    refine (callsIn_wide (n := 6)).1 ?_
    refine callsIn_of_wp_marks Tryd.func27 rfl trivial ?_ rfl
    simp only [Tryd.ntmps27, List.size_toArray, List.length_cons, List.length_nil, Nat.reduceAdd, Nat.reduceSub, Array.replicate_succ, Array.replicate_zero, List.push_toArray, List.append_toArray, List.nil_append, List.cons_append]
    gi_wp2_with (first
      | (refine ⟨trivial, ?_⟩; gi_at_call 53; rw [HW2.out]; refine (callsIn_wide.2 CR.out).mono ?_; rintro e w3 ⟨A, c, rfl, hr, b3⟩; have HR3 := Lib.hid hr; have HB3 := Lib.hid b3; clear hr b3)
      | (refine ⟨trivial, ?_⟩; gi_at_call 54; refine (callsIn_wide.2 (way_fn _ _ _ _ _)).mono ?_; rintro e w' ⟨rfl, rfl⟩))
    have hb3 := HB3.out
    have bT := Boxed.new w3 84 (.slice A N c)
    have bD := Boxed.new (w3.alloc (.cells #[.slice A N c] 84)) 25 (.pointer (some ⟨d, 0, none⟩))
    have bL := Boxed.new ((w3.alloc (.cells #[.slice A N c] 84)).alloc (.cells #[.pointer (some ⟨d, 0, none⟩)] 25)) 84 (.slice A N c)
    simp only [World.size_alloc] at bD bL ⊢
    have hB0 : Below w3.heap.size w3 (((w3.alloc (.cells #[.slice A N c] 84)).alloc (.cells #[.pointer (some ⟨d, 0, none⟩)] 25)).alloc (.cells #[.slice A N c] 84)) := (((Below.refl _ w3).alloc (Nat.le_refl _) _).alloc (by simp) _).alloc (by simp <;> omega) _
    have hD3 := HD.out.below (HBA.out.trans (hb3.mono HBA.out.size))
    have hx0 : Boxed w3 w.heap.size 3 (.int .i64 0) := (hb3.block _ X0.out.lt).trans X0.out
    have hx1 : Boxed w3 (w.heap.size + 1) 26 (.int .i64 0) := (hb3.block _ X1.out.lt).trans X1.out
    have l0 := hx0.lt; have l1 := hx1.lt
    have HX0 := Lib.hid hx0; have HX1 := Lib.hid hx1
    have hba3 := Lib.hid (HBA.out.trans (hb3.mono HBA.out.size))
    refine wpIn_rangeFunc_ownH rfl (by decide) (gf := 83) (lb := #[.pointer (some ⟨w3.heap.size + 1 + 1, 0, none⟩), .pointer (some ⟨w3.heap.size + 1, 0, none⟩)]) rfl trivial (enters_of Tryd.func83 (by kernel_rfl) rfl)
      (way_stops 5 (by decide) (w3.heap.size + 1 + 1) (w3.heap.size + 1) w3.heap.size d N A c l HN.out (by omega) L W HR.out Q HQ.out HK.out w3 rfl hD3 HR3.out _ (by simp <;> omega) hB0 (by simp) (by simp <;> omega) bL.cell (bD.alloc _).cell) Keep2.trans (keep2_b (by simp <;> omega) (by simp) (by simp <;> omega)) (Below.refl _ _) (fun _ => rfl)
      (fun (pre : List (WyI Q W l)) W' => ((∀ x ∈ wyL pre, x ≠ N) ∧ Boxed W' w3.heap.size 84 (.slice A N c)) ∧ Below w3.heap.size w3 W')
      (fun cc (pre : List (WyI Q W l)) W' => (∃ z, cc = .ret ∧ wyL pre = z ++ [N]) ∧ Boxed W' w.heap.size 3 (.int .i64 (Q.idxOf (behP W l) : Int)) ∧ Boxed W' (w.heap.size + 1) 26 (.int .i64 0) ∧ Below w.heap.size w W')
      (OwnFrom.and (OwnFrom.and (ownFrom_pure _ (fun pre : List (WyI Q W l) => ∀ x ∈ wyL pre, x ≠ N)) (Own.from (boxed_own _ _ _) _)) (ownFrom_below (Nat.le_refl _) (by simp <;> omega)))
      (fun cc => OwnFrom.and (ownFrom_pure _ (fun pre : List (WyI Q W l) => ∃ z, cc = .ret ∧ wyL pre = z ++ [N])) (OwnFrom.and (Own.from (boxed_own _ _ _) _) (OwnFrom.and (Own.from (boxed_own _ _ _) _) (ownFrom_below (Nat.le_refl _) (by simp <;> omega)))))
      ⟨⟨by simp [wyL], (bT.alloc _).alloc _⟩, hB0⟩
      (fun x a' W' => a' = { tmps := #[.pointer (some ⟨d, 0, none⟩), .string s, undef, undef, .pointer (some ⟨w.heap.size, 0, none⟩), .pointer (some ⟨w.heap.size + 1, 0, none⟩), .pointer (some ⟨w3.heap.size, 0, none⟩), .int .i64 0, .int .i64 (x.val : Int), .int .i64 (Q.idxOf (behP W (l.take x.val)) : Int), .tuple #[.slice A N c, .int .i64 0], .pointer (some ⟨d, 0, none⟩), .string s, .tuple #[.slice A N c, .int .i64 0], .slice A N c, .int .i64 0, .int .i64 0, .bool false, undef, .pointer (some ⟨d, 0, none⟩), .slice A N c, .func (.func 83) #[] #[.pointer (some ⟨w3.heap.size + 1 + 1, 0, none⟩), .pointer (some ⟨w3.heap.size + 1, 0, none⟩)], .int .i64 (x.val : Int), .int .i64 (Q.idxOf (behP W (l.take x.val)) : Int), undef, undef, undef, undef, undef], defers := [] })
      (fun x a' s X Y row hx hg hr => hx)
      ?assign ?body ?done ?stop
    case assign =>
      rintro lp pre x W' K hI hK
      simp only [wayEnc]
      gi_wp2
      exact hK _ _ (KeepsFrom.refl _ _) (Keep2.refl _ _ _ _) hI rfl
    case body =>
      rintro lp pre x a' W' hl hr ⟨⟨hp, hE⟩, hB⟩ rfl hlt
      have hce := hE.cell
      obtain ⟨xv, hxv⟩ : ∃ z, x.val = z := ⟨_, rfl⟩
      have hsn := wyL_snoc pre x
      rw [hxv] at hsn ⊢
      by_cases hxe : xv = N
      · subst hxe
        have e1 : ((xv : Int) == (xv : Int)) = true := beq_self_eq_true _
        have hlt2 : l.take xv = l := List.take_of_length_le (by rw [HN.out]; exact Nat.le_refl _)
        rw [hlt2]
        have y0 : Boxed W' w.heap.size 3 (.int .i64 0) := (hB.block _ HX0.out.lt).trans HX0.out
        have y1 : Boxed W' (w.heap.size + 1) 26 (.int .i64 0) := (hB.block _ HX1.out.lt).trans HX1.out
        have c0 := y0.cell; have c1 := y1.cell; have f0 := y0.frozen; have f1 := y1.frozen
        obtain ⟨iv, hiv⟩ : ∃ z : Int, (Q.idxOf (behP W l) : Int) = z := ⟨_, rfl⟩
        have z0 := (y0.set (.int .i64 iv)).other (show w.heap.size ≠ w.heap.size + 1 by omega) (.int .i64 0)
        have z1 := (y1.other (show w.heap.size + 1 ≠ w.heap.size by omega) (.int .i64 iv)).set (.int .i64 0)
        have hbz := ((hba3.out.trans (hB.mono hba3.out.size)).setCell (p := ⟨w.heap.size, 0, none⟩) (Nat.le_refl _) (.int .i64 iv)).setCell (p := ⟨w.heap.size + 1, 0, none⟩) (by show w.heap.size ≤ w.heap.size + 1; omega) (.int .i64 0)
        rw [hiv]
        have Z0 := Lib.hid z0; have Z1 := Lib.hid z1; have HBZ := Lib.hid hbz
        clear z0 z1 hbz hiv hp hE hB y0 y1
        gi_wp2
        exact ⟨((KeepsOthers.setCell _ _ _).from _).trans ((KeepsOthers.setCell _ _ _).from _), ⟨_, rfl, hsn⟩, Z0.out, Z1.out, HBZ.out⟩
      · have e1 : ((xv : Int) == (N : Int)) = false := by simpa using (by omega : ¬ (xv : Int) = (N : Int))
        gi_wp2
        exact ⟨KeepsFrom.refl _ _, Keep2.refl _ _ _ _, ⟨fun j hj => by
          rw [hsn] at hj
          rcases List.mem_append.1 hj with h | h
          · exact hp j h
          · have e : j = xv := by simpa using h
            rw [e]; exact hxe, hE⟩, hB⟩
    case done =>
      rintro D ys W' hD hys ⟨⟨hp, hE⟩, hB⟩ hK
      rw [hys] at hp
      have hgN : wayG W l < N := by
        rcases Nat.lt_or_ge (wayG W l) N with h | h
        · exact h
        · exact absurd rfl (hp N (List.mem_range.2 (by omega)))
      obtain ⟨e1, e2⟩ := HNO.out hgN
      subst e1 e2
      have y0 : Boxed W' w.heap.size 3 (.int .i64 0) := (hB.block _ HX0.out.lt).trans HX0.out
      have y1 : Boxed W' (w.heap.size + 1) 26 (.int .i64 0) := (hB.block _ HX1.out.lt).trans HX1.out
      have c0 := y0.cell; have c1 := y1.cell; have f0 := y0.frozen; have f1 := y1.frozen
      have z0 := (y0.set (.int .i64 0)).other (show w.heap.size ≠ w.heap.size + 1 by omega) (.int .i64 10)
      have z1 := (y1.other (show w.heap.size + 1 ≠ w.heap.size by omega) (.int .i64 0)).set (.int .i64 10)
      have hbz := ((hba3.out.trans (hB.mono hba3.out.size)).setCell (p := ⟨w.heap.size, 0, none⟩) (Nat.le_refl _) (.int .i64 0)).setCell (p := ⟨w.heap.size + 1, 0, none⟩) (by show w.heap.size ≤ w.heap.size + 1; omega) (.int .i64 10)
      have hDw : w3.heap.size ≤ D := by simp at hD; omega
      have hMK : ZMarks w3.heap.size ((W'.setCell ⟨w.heap.size, 0, none⟩ (.int .i64 0)).setCell ⟨w.heap.size + 1, 0, none⟩ (.int .i64 10)) [D] := ((show ZMarks w3.heap.size W' [D] from ⟨by simp, fun D' hD' => by
        have e : D' = D := by simpa using hD'
        rw [e]; exact ⟨hDw, hK⟩⟩).keeps (KeepsOthers.setCell _ _ _)).keeps (KeepsOthers.setCell _ _ _)
      have hsz : w3.heap.size ≤ ((W'.setCell ⟨w.heap.size, 0, none⟩ (.int .i64 0)).setCell ⟨w.heap.size + 1, 0, none⟩ (.int .i64 10)).heap.size := by simp; exact hB.size
      have Z0 := Lib.hid z0; have Z1 := Lib.hid z1; have HBZ := Lib.hid hbz; have HMK := Lib.hid hMK; have HSZ := Lib.hid hsz
      clear z0 z1 hbz hMK hsz hp hE hB hK hys y0 y1 hgN
      gi_wp2
      refine z_leaves_marks (n0 := w3.heap.size) [D] _ HSZ.out HMK.out (fun w' hb' hk' => ?_)
      have q0 : Boxed w' w.heap.size 3 (.int .i64 0) := hk' _ _ Z0.out rfl
      have q1 : Boxed w' (w.heap.size + 1) 26 (.int .i64 10) := hk' _ _ Z1.out rfl
      exact ust_leaves rfl rfl q0.cell q1.cell (HBZ.out.trans (hb'.mono hba3.out.size))
    case stop =>
      rintro D cc pre W' hD hp ⟨⟨z, rfl, hpz⟩, y0, y1, hB⟩ hK
      have hgN : wayG W l = N := by
        rw [hpz] at hp
        have h1 := hp.subset (show N ∈ z ++ [N] by simp)
        rw [List.mem_range] at h1
        have := HGL.out
        omega
      obtain ⟨e1, e2⟩ := HYES.out hgN
      subst e1 e2
      have hDw : w3.heap.size ≤ D := by simp at hD; omega
      have hMK : ZMarks w3.heap.size W' [D] := ⟨by simp, fun D' hD' => by
        have e : D' = D := by simpa using hD'
        rw [e]; exact ⟨hDw, hK⟩⟩
      have hsz : w3.heap.size ≤ W'.heap.size := by have := (Array.getElem?_eq_some_iff.1 hK).1; omega
      gi_wp2
      refine z_leaves_marks (n0 := w3.heap.size) [D] _ hsz hMK (fun w' hb' hk' => ?_)
      have q0 := show Boxed w' w.heap.size 3 _ from hk' _ _ y0 rfl
      have q1 : Boxed w' (w.heap.size + 1) 26 (.int .i64 0) := hk' _ _ y1 rfl
      exact ust_leaves rfl rfl q0.cell q1.cell (hB.trans (hb'.mono hba3.out.size))
  · exact ustate_no w d s hO hs Q (rnW L) he
end Go.Proofs.YtljaibhhkjapmaaDoor

/- made, alive of layer 11: an automaton of words that are looked at; the document's examples. -/
namespace Go.Proofs.YtljaibhhkjapmaaDoor
open Go.RowKit Go.Shelf
attribute [local go_sem] Oper.semAt_some
set_option linter.unusedSimpArgs false
set_option linter.unusedVariables false

/-- Whether words and a text are more than are looked at. -/
def gr11 (l : List Wrd) (s : ByteArray) : Bool := decide (60 < l.length) || decide (800 < s.size + smW l)
theorem gr11_no {l : List Wrd} {s : ByteArray} (h : gr11 l s = false) : l.length ≤ 60 ∧ s.size + smW l ≤ 800 := by
  unfold gr11 at h
  rw [Bool.or_eq_false_iff] at h
  have h1 := of_decide_eq_false h.1
  have h2 := of_decide_eq_false h.2
  exact ⟨by omega, by omega⟩
/-- What made answers: nothing, or the automaton of words that are looked at. -/
def MadeP (l : List Wrd) (s : ByteArray) (w : World) (e : Ending) (w' : World) : Prop :=
  Below w.heap.size w w' ∧ (e = .returned (.tuple #[.pointer none, .slice none 0 0, .bool false]) ∨
    ∃ d v, e = .returned (.tuple #[.pointer (some ⟨d, 0, none⟩), v, .bool true]) ∧ (wisS (worS l) = 0 ∧ (worS l).length ≤ 60 ∧ s.size ≤ 800 ∧ szW (worS l)) ∧ DgAt w' d (staQ (rnW (worS l))) (worS l) ∧ WRuns w' v (worS l))
set_option maxRecDepth 100000 in
set_option maxHeartbeats 8000000 in
theorem made_any (u : Value) (l : List Wrd) (s : ByteArray) (w : World) (hO : Okw w) (hu : WRuns w u l) (hz : szMW l) (hs : s.size ≤ 281474976710656) :
    Calls Tryd.prog 26 #[u, .string s] w (MadeP l s w) := by
  have hgr : gr11 l s = (decide (60 < l.length) || decide (800 < s.size + smW l)) := rfl
  have hcm : l.length ≤ maxLen := by
    obtain ⟨_, c, _, h1, h2, _⟩ := hu
    exact Nat.le_trans h1 h2.1
  obtain ⟨A, c, e⟩ := hu.slice
  subst e
  obtain ⟨n, hn⟩ : ∃ n, l.length = n := ⟨_, rfl⟩
  rw [hn] at hgr hcm
  unfold maxLen at hcm
  obtain ⟨ss, hss⟩ : ∃ z, s.size = z := ⟨_, rfl⟩
  rw [hss] at hs hgr
  by_cases hbig : 60 < n
  · rw [hn] at hu ⊢
    have HU := Lib.hid hu; have HN := Lib.hid hn; have HSS := Lib.hid hss
    clear hu hz hn hgr hss
    go_enter Tryd.func26, Tryd.ntmps26
    go_wp2
    go_loopw [7, 9, 17] (fun s7 s9 s17 wr => ∃ (k : Nat) (s : Int), k ≤ n ∧ s17 = .int .i64 k ∧ s7 = .int .i64 s ∧ Hid (Below w.heap.size w wr)) (fun _ _ s17 _ => n - (RowKit.intOf s17).toNat)
    case atStart => exact ⟨0, _, Nat.zero_le _, rfl, rfl, Lib.hid (Below.refl _ _)⟩
    case round =>
      obtain ⟨k, s, hkn, rfl, rfl, BW⟩ := hrel
      by_cases hk : k < n
      · have k1 : (k : Int) < (n : Int) := by omega
        obtain ⟨⟨p1, p2⟩, hp⟩ : ∃ p, l[k]? = some p := ⟨_, List.getElem?_eq_getElem (by rw [HN.out]; exact hk)⟩
        obtain ⟨b, o, rfl, _, hc⟩ := (HU.out.below BW.out).cells HN.out (by omega)
        obtain ⟨g0, g1⟩ := wrd_cells hc hp
        simp only at g0 g1
        have hal : Hid (Below w.heap.size w (wr.alloc (.cells #[.string p1, .int .i64 p2] 72))) := Lib.hid (BW.out.alloc BW.out.size _)
        clear hc hp
        go_wp2
        exact ⟨⟨k + 1, _, by omega, by go_num, rfl, hal⟩, by simp [RowKit.intOf]; omega⟩
      · obtain rfl : k = n := by omega
        have h5 : (60 : Int) < (k : Int) := by omega
        have h5d : decide ((60 : Int) < (k : Int)) = true := decide_eq_true h5
        go_wp2
        go_ret3
        exact ⟨BW.out, .inl rfl⟩
  · have hb' := smW_le (l := l) (c := 140737488355328) hz
    obtain ⟨sm, hsm⟩ : ∃ f, f = fun k => ss + smW (l.take k) := ⟨_, rfl⟩
    have hst : ∀ k x, l[k]? = some x → sm (k + 1) = sm k + x.1.size := fun k x hx => by rw [hsm]; show ss + smW (l.take (k + 1)) = ss + smW (l.take k) + x.1.size; rw [smW_take k x hx]; omega
    have hbd : ∀ k, sm k ≤ 281474976710656 + k * 140737488355328 := fun k => by rw [hsm]; have := hb' k; show ss + smW (l.take k) ≤ _; omega
    have h0 : sm 0 = ss := by rw [hsm]; simp [smW]
    have hfin : ss + smW l = sm n := by
      rw [hsm]
      simp only
      rw [List.take_of_length_le (by rw [hn]; exact Nat.le_refl _)]
    rw [hfin] at hgr
    have hszm : sm n ≤ 800 → ss ≤ 800 ∧ szW l := fun h => ⟨by omega, fun b hb => by have := smW_mem l b hb; omega⟩
    have hnor := fun (h : szW l) w' hu => refNormal9_any (.slice A l.length c) l w' hu (by omega) h
    have hln := worS_len l
    have hzn := fun (h : szW l) => szW_nor h
    have hwi : worE l = 0 → wisS (worS l) = 0 := fun e => wor_is e
    have hnew := fun (h : szW l) v w' hO hv => newd_any v (worS l) w' hO hv (by omega) (szW_nor h)
    have hML : ∀ e w', MadeP l s w e w' = (Below w.heap.size w w' ∧ (e = .returned (.tuple #[.pointer none, .slice none 0 0, .bool false]) ∨
      ∃ d v, e = .returned (.tuple #[.pointer (some ⟨d, 0, none⟩), v, .bool true]) ∧ (wisS (worS l) = 0 ∧ (worS l).length ≤ 60 ∧ s.size ≤ 800 ∧ szW (worS l)) ∧ DgAt w' d (staQ (rnW (worS l))) (worS l) ∧ WRuns w' v (worS l))) := fun _ _ => rfl
    obtain ⟨ea, hea⟩ : ∃ z, worE l = z := ⟨_, rfl⟩
    obtain ⟨X, hX⟩ : ∃ z, worS l = z := ⟨_, rfl⟩
    simp only [hX, hea] at hnor hln hzn hwi hnew hML
    rw [hn] at hnor hu hln ⊢
    obtain ⟨nx, hnx⟩ : ∃ z, X.length = z := ⟨_, rfl⟩
    have HST := Lib.hid hst; have HBD := Lib.hid hbd; have H0 := Lib.hid h0; have HSZ := Lib.hid hszm; have HNOR := Lib.hid hnor; have HLN := Lib.hid hln; have HZN := Lib.hid hzn; have HWI := Lib.hid hwi; have HNEW := Lib.hid hnew; have HML := Lib.hid hML; have HU := Lib.hid hu; have HN := Lib.hid hn; have HSS := Lib.hid hss; have HZ := Lib.hid hz; have HNX := Lib.hid hnx
    clear hst hbd h0 hszm hnor hln hzn hwi hnew hML hu hn hss hz hfin hsm hb' hgr hea hX hnx
    go_enter Tryd.func26, Tryd.ntmps26
    go_wp2
    rw [HSS.out]
    go_loopw [7, 9, 17] (fun s7 s9 s17 wr => ∃ k : Nat, k ≤ n ∧ s17 = .int .i64 k ∧ s7 = .int .i64 (sm k : Nat) ∧ Hid (Below w.heap.size w wr)) (fun _ _ s17 _ => n - (RowKit.intOf s17).toNat)
    case atStart => exact ⟨0, Nat.zero_le _, rfl, by rw [H0.out], Lib.hid (Below.refl _ _)⟩
    case round =>
      obtain ⟨k, hkn, rfl, rfl, BW⟩ := hrel
      have bk := HBD.out k
      obtain ⟨sk, es⟩ : ∃ z, sm k = z := ⟨_, rfl⟩
      rw [es] at bk ⊢
      have HES := Lib.hid es; clear es
      by_cases hk : k < n
      · have k1 : (k : Int) < (n : Int) := by omega
        obtain ⟨⟨p1, p2⟩, hp⟩ : ∃ p, l[k]? = some p := ⟨_, List.getElem?_eq_getElem (by rw [HN.out]; exact hk)⟩
        obtain ⟨b, o, rfl, _, hc⟩ := (HU.out.below BW.out).cells HN.out (by omega)
        obtain ⟨g0, g1⟩ := wrd_cells hc hp
        simp only at g0 g1
        have hs1 := HST.out k _ hp
        have hz1 := HZ.out _ (List.mem_of_getElem? hp)
        simp only at hs1 hz1
        rw [HES.out] at hs1
        have HS1 := Lib.hid hs1
        have w2 : IntKind.i64.wrap ((sk : Int) + (p1.size : Int)) = (sk : Int) + (p1.size : Int) := by rw [IntKind.wrap_i64]; omega
        have hal : Hid (Below w.heap.size w (wr.alloc (.cells #[.string p1, .int .i64 p2] 72))) := Lib.hid (BW.out.alloc BW.out.size _)
        clear hc hp hs1
        go_wp2
        exact ⟨⟨k + 1, by omega, by go_num, by rw [HS1.out]; simp, hal⟩, by simp [RowKit.intOf]; omega⟩
      · obtain rfl : k = n := by omega
        have h5 : ¬ (60 : Int) < (k : Int) := by omega
        have h5d : decide ((60 : Int) < (k : Int)) = false := decide_eq_false h5
        by_cases h8 : 800 < sk
        · have h8' : (800 : Int) < (sk : Int) := by omega
          have h8d : decide ((800 : Int) < (sk : Int)) = true := decide_eq_true h8'
          go_wp2
          go_ret3
          exact ⟨BW.out, .inl rfl⟩
        · have h8' : ¬ (800 : Int) < (sk : Int) := by omega
          have h8d : decide ((800 : Int) < (sk : Int)) = false := decide_eq_false h8'
          obtain ⟨hs8, hzl⟩ := HSZ.out (by rw [HES.out]; omega)
          have N1 := Lib.hid (HNOR.out hzl wr (HU.out.below BW.out))
          go_wp2_with fail
          refine N1.out.mono ?_
          rintro e w2 ⟨v, rfl, hv, b2⟩
          have B2 := Lib.hid (BW.out.trans (b2.mono BW.out.size)); have R2 := Lib.hid hv
          clear hv b2 N1
          by_cases hea0 : ea = 0
          · subst hea0
            have hn0 := HWI.out (by first | rfl | trivial)
            obtain ⟨Av, cv, ev⟩ := R2.out.slice
            rw [HNX.out] at ev
            subst ev
            have D1 := Lib.hid (HNEW.out hzl _ w2 (hO.below B2.out) R2.out)
            have HN0 := Lib.hid hn0
            clear hn0
            go_wp2_with fail
            refine D1.out.mono ?_
            rintro e w3 ⟨b3, hp⟩
            rcases hp with ⟨hne, _⟩ | ⟨_, d, rfl, hd⟩
            · exact absurd HN0.out hne
            have B3 := Lib.hid (B2.out.trans (b3.mono B2.out.size)); have HD := Lib.hid hd; have R3 := Lib.hid (R2.out.below b3)
            clear b3 hd D1
            go_wp2
            go_ret3
            exact (HML.out _ _).mpr ⟨B3.out, .inr ⟨d, _, rfl, ⟨HN0.out, by have := HLN.out; have := HNX.out; omega, by rw [HSS.out]; exact hs8, HZN.out hzl⟩, HD.out, R3.out⟩⟩
          · have e1 : (ea == 0) = false := by simpa using hea0
            have e2 : (ea != 0) = true := by simpa using hea0
            go_wp2
            go_ret3
            exact ⟨B2.out, .inl rfl⟩
end Go.Proofs.YtljaibhhkjapmaaDoor

/- alive of layer 11: the document's examples. -/
namespace Go.Proofs.YtljaibhhkjapmaaDoor
open Go.RowKit Go.Shelf
attribute [local go_sem] Oper.semAt_some
set_option linter.unusedSimpArgs false
set_option linter.unusedVariables false

def Alive11 : Prop := ∀ w, Okw w → Calls Tryd.prog 25 #[] w fun e w' => e = .returned (.bool true) ∧ Below w.heap.size w w'
def L3 : List Wrd := [(⟨#[97]⟩, 1), (⟨#[97, 98]⟩, 1), (⟨#[98]⟩, 1)]
theorem ex11 : wisS L3 = 0 ∧ ulS (rnW L3) [97, 98, 98] = ⟨#[97, 98]⟩ ∧ ulE (rnW L3) [97, 98, 98] = 0 ∧ uspE (rnW L3) [97, 98, 98] = 0 ∧ uspS (rnW L3) [97, 98, 98] = [⟨#[97, 98]⟩, ⟨#[98]⟩] := by
  refine ⟨by decide +kernel, by decide +kernel, by decide +kernel, by decide +kernel, by decide +kernel⟩
set_option maxRecDepth 100000 in
set_option maxHeartbeats 8000000 in
theorem alive11_any : Alive11 := by
  intro w h
  have r0 := wrds_lit w L3 (by decide)
  change WRuns (w.alloc (.cells #[.string ⟨#[97]⟩, .int .i64 1, .string ⟨#[97, 98]⟩, .int .i64 1, .string ⟨#[98]⟩, .int .i64 1] 72)) (.slice (some ⟨w.heap.size, 0, none⟩) 3 3) _ at r0
  have b0 := bel_one w (.cells #[.string ⟨#[97]⟩, .int .i64 1, .string ⟨#[97, 98]⟩, .int .i64 1, .string ⟨#[98]⟩, .int .i64 1] 72)
  obtain ⟨wa, hwa⟩ : ∃ z, w.alloc (.cells #[.string ⟨#[97]⟩, .int .i64 1, .string ⟨#[97, 98]⟩, .int .i64 1, .string ⟨#[98]⟩, .int .i64 1] 72) = z := ⟨_, rfl⟩
  rw [hwa] at r0 b0
  have c1 := newd_any (.slice (some ⟨w.heap.size, 0, none⟩) 3 3) L3 wa (h.below b0) r0 (by decide) (fun b hb => by
    simp only [L3, List.mem_cons, List.mem_nil_iff, or_false] at hb
    rcases hb with rfl | rfl | rfl <;> (show _ ≤ 2000000; decide))
  have c2 : ∀ w d, Okw w → DgAt w d (staQ (rnW L3)) L3 → Calls Tryd.prog 31 #[.pointer (some ⟨d, 0, none⟩), .string ⟨#[97, 98, 98]⟩] w fun e w' => e = .returned (.tuple #[.string ⟨#[97, 98]⟩, .int .i64 0]) ∧ Below w.heap.size w w' := fun w d hO hd => by
    have := ulongest_any w d L3 ex11.1 _ rfl hd ⟨#[97, 98, 98]⟩ hO (by decide)
    rw [show (⟨#[97, 98, 98]⟩ : ByteArray).data.toList = [97, 98, 98] from rfl, ex11.2.1, ex11.2.2.1] at this
    exact this
  have c3 : ∀ w d, Okw w → DgAt w d (staQ (rnW L3)) L3 → Calls Tryd.prog 35 #[.pointer (some ⟨d, 0, none⟩), .string ⟨#[97, 98, 98]⟩] w fun e w' => ∃ b o c, e = .returned (.tuple #[.slice (some ⟨b, o, none⟩) 2 c, .int .i64 0]) ∧ w'.cell? ⟨b, o + 1, none⟩ = some (.string ⟨#[98]⟩) ∧ 2 ≤ c ∧ Below w.heap.size w w' := fun w d hO hd => by
    have := usplit_any w d L3 ex11.1 _ rfl hd ⟨#[97, 98, 98]⟩ hO (by decide)
    rw [show (⟨#[97, 98, 98]⟩ : ByteArray).data.toList = [97, 98, 98] from rfl, ex11.2.2.2.1, ex11.2.2.2.2] at this
    refine this.mono ?_
    rintro e w' ⟨v, rfl, hv, hb⟩
    obtain ⟨A, c, ev⟩ := hv.slice
    have hc := gr_cap (ev ▸ hv)
    subst ev
    obtain ⟨b, o, rfl, _, hcell⟩ := hv.cells rfl (by decide)
    exact ⟨b, o, c, rfl, hcell 1 _ rfl 0 _ rfl, hc.1, hb⟩
  have c4 := fun w => ucount_nil ⟨#[]⟩ w
  have C1 := Lib.hid c1; have C2 := Lib.hid c2; have C3 := Lib.hid c3; have C4 := Lib.hid c4; have HWA := Lib.hid hwa; have HB0 := Lib.hid b0
  have hx := Lib.hid ex11.1
  clear c1 c2 c3 c4 hwa b0 r0
  go_enter Tryd.func25, Tryd.ntmps25
  go_wp2_with fail
  rw [HWA.out]
  refine C1.out.mono ?_
  rintro e w1 ⟨b1, hp⟩
  rcases hp with ⟨hne, _⟩ | ⟨_, d, rfl, hd⟩
  · exact absurd hx.out hne
  have B1 := Lib.hid (HB0.out.trans (b1.mono HB0.out.size)); have HD := Lib.hid hd
  clear b1 hd
  go_wp2_with fail
  refine (C2.out _ d (h.below B1.out) HD.out).mono ?_
  rintro e w2 ⟨rfl, b2⟩
  have B2 := Lib.hid (B1.out.trans (b2.mono B1.out.size)); have HD2 := Lib.hid (HD.out.below b2)
  clear b2
  go_wp2_with fail
  refine (C3.out _ d (h.below B2.out) HD2.out).mono ?_
  rintro e w3 ⟨bk, o, c, rfl, hcell, hc2, b3⟩
  have B3 := Lib.hid (B2.out.trans (b3.mono B2.out.size))
  clear b3
  go_wp2_with fail
  refine (C4.out _).mono ?_
  rintro e w4 ⟨rfl, e4⟩
  obtain rfl := e4.symm
  go_wp2
  go_ret
  exact ⟨rfl, B3.out⟩
end Go.Proofs.YtljaibhhkjapmaaDoor

/- WalkCounts, walked over what walk's functions answer. -/
namespace Go.Proofs.YtljaibhhkjapmaaDoor
open Go.RowKit Go.Shelf
attribute [local go_sem] Oper.semAt_some
set_option linter.unusedSimpArgs false
set_option linter.unusedVariables false

/-- Where a part of a slice of words begins. -/
def cutW2 (A : Option Addr) (c k : Nat) : Option Addr := if c = k then A else A.map (·.add (k * 2))
theorem elemWd : Tryd.prog.underlying 22 = some (.slice (Tryd.prog.elem 22)) := by kernel_rfl
theorem sizeWd (w : World) : (sizeOf (Tryd.prog.elem 22)).run Tryd.prog w = .ok 2 w := by kernel_rfl
theorem slice_wd {w : World} {A : Option Addr} {n c : Nat} {l : List Wrd} (h : WRuns w (.slice A n c) l) (hn : l.length = n) (i m : Nat) (hi : i ≤ m) (hm : m ≤ n) :
    (∀ W, (Instr.slice 22 (.slice A n c) (some (.int .i64 (i : Int))) (some (.int .i64 (m : Int))) none).run Tryd.prog W = .ok (.slice (cutW2 A c i) (m - i) (c - i)) W) ∧ WRuns w (.slice (cutW2 A c i) (m - i) (c - i)) ((l.drop i).take (m - i)) := by
  have hr := gr_sliced h hn i m hi hm
  have hcap := gr_cap h
  refine ⟨fun W => ?_, by simpa [sliced, cutW2] using hr⟩
  rw [run_slice_lh (ht := elemWd) (h0 := by omega) (h1 := by omega) (h2 := by omega), sizeWd]
  simp [Result.andThen, sliced, cutW2]
theorem slice_wdh {w : World} {A : Option Addr} {n c : Nat} {l : List Wrd} (h : WRuns w (.slice A n c) l) (hn : l.length = n) (m : Nat) (hm : m ≤ n) :
    (∀ W, (Instr.slice 22 (.slice A n c) none (some (.int .i64 (m : Int))) none).run Tryd.prog W = .ok (.slice (cutW2 A c 0) m c) W) ∧ WRuns w (.slice (cutW2 A c 0) m c) (l.take m) := by
  have hr := gr_sliced h hn 0 m (Nat.zero_le _) hm
  rw [List.drop_zero, Nat.sub_zero] at hr
  have hcap := gr_cap h
  refine ⟨fun W => ?_, by simpa [sliced, cutW2] using hr⟩
  rw [run_slice_h (ht := elemWd) (h0 := by omega) (h2 := by omega), sizeWd]
  simp [Result.andThen, sliced, cutW2]
/-- No words but of what begins so. -/
theorem comp_all {X : List Wrd} (hn : wisS X = 0) (hx : X.length ≤ 60) (s : ByteArray) (he : uE s.data.toList = 0) : ucpE s 1000 = 0 ∧ ucpS X s 1000 = (X.drop (bgF X s)).take (bgN X s) := by
  have h1 : ucpE s 1000 = 0 := by unfold ucpE; rw [if_pos he, if_neg (by omega)]
  refine ⟨h1, ?_⟩
  unfold ucpS
  rw [if_pos h1, show (1000 : Int).toNat = 1000 from rfl, comp_take hn, Nat.min_eq_left (by have := bgN_le X s; omega)]
/-- A text leads somewhere just where words begin with it. -/
theorem leads_is {X : List Wrd} (hn : wisS X = 0) (s : ByteArray) (he : uE s.data.toList = 0) : (0 < bgN X s ∧ ustE (rnW X) s.data.toList = 0) ∨ (bgN X s = 0 ∧ s = ⟨#[]⟩ ∧ ustE (rnW X) s.data.toList = 0) ∨ (bgN X s = 0 ∧ s ≠ ⟨#[]⟩ ∧ ustE (rnW X) s.data.toList = 10) := by
  obtain ⟨hv, _, hus⟩ := uE_ok he
  have hb := begins_beh hn hv
  unfold ustE
  rw [if_pos he, hus]
  have hnil : items s.data.toList = [] ↔ s = ⟨#[]⟩ := by
    rw [items_eq_nil]
    exact ⟨fun h => key_ext h, fun h => by rw [h]⟩
  have hwb : wlkB (rnW X) (items s.data.toList) = decide (items s.data.toList = [] ∨ behP (rnW X) (items s.data.toList) ≠ []) := rfl
  rw [hwb]
  rcases Nat.eq_zero_or_pos (bgN X s) with h0 | h0
  · right
    have h1 : ¬ behP (rnW X) (items s.data.toList) ≠ [] := fun h => by have h2 : 0 < bgN X s := hb.1 h; omega
    by_cases h2 : s = ⟨#[]⟩
    · exact .inl ⟨h0, h2, by rw [if_pos (decide_eq_true (.inl (hnil.2 h2)))]⟩
    · exact .inr ⟨h0, h2, by rw [if_neg (fun h => by rcases of_decide_eq_true h with h | h; exact h2 (hnil.1 h); exact h1 h)]⟩
  · exact .inl ⟨h0, by rw [if_pos (decide_eq_true (.inr (hb.2 h0)))]⟩
set_option maxRecDepth 100000 in
set_option maxHeartbeats 64000000 in
theorem walkCounts_walk (u : Value) (l : List Wrd) (s : ByteArray) (w : World) (h : Okw w) (hu : WRuns w u l) (hz : szMW l) (hs : s.size ≤ 140737488355328) :
    Calls Tryd.prog 6 #[u, .string s] w (RetTrue w) := by
  have m1 := fun w hO hu => made_any u l s w hO hu hz (by omega)
  obtain ⟨X, hX⟩ : ∃ z, worS l = z := ⟨_, rfl⟩
  have HU := Lib.hid hu; have M1 := Lib.hid m1
  clear hu m1 hz
  go_enter Tryd.func6, Tryd.ntmps6
  go_wp2_with fail
  refine (alive11_any _ h).mono ?_
  rintro e w1 ⟨rfl, b1⟩
  have U1 := Lib.hid (HU.out.below b1); have K1 : Hid (Okw w1) := Lib.hid (h.below b1)
  have B1 := Lib.hid b1; clear b1
  go_wp2_with fail
  refine (M1.out _ K1.out U1.out).mono ?_
  rintro e w2 ⟨b2, hp⟩
  have K2 : Hid (Okw w2) := Lib.hid (K1.out.below b2); have B2 := Lib.hid (B1.out.trans (b2.mono B1.out.size))
  clear b2 M1
  rcases hp with rfl | ⟨d, v, rfl, hq, hd, hv⟩
  · go_wp2
    go_ret
    exact ⟨rfl, B2.out⟩
  rw [hX] at hq hd hv
  obtain ⟨hn, hx60, hs8, hzx⟩ := hq
  obtain ⟨Av, cv, ev⟩ := hv.slice
  obtain ⟨nx, hnx⟩ : ∃ z, X.length = z := ⟨_, rfl⟩
  rw [hnx] at ev
  subst ev
  have HV := Lib.hid hv; have HD := Lib.hid hd; have HNX := Lib.hid hnx
  have cc := fun w' (hb : Below w2.heap.size w2 w') => ucount_any w' d X hn _ rfl (hd.below hb) s (K2.out.below hb) (by omega)
  have cp := fun w' (hb : Below w2.heap.size w2 w') => ucomplete_any w' d X hn _ rfl (hd.below hb) s 1000 (K2.out.below hb) (by omega)
  have ct := fun w' (hb : Below w2.heap.size w2 w') => ustate_any w' d X hn _ rfl (hd.below hb) s (K2.out.below hb) (by omega)
  have cb := fun w' (hb : Below w2.heap.size w2 w') => xbegins_any (.slice Av nx cv) X s w' (K2.out.below hb) (hv.below hb) (by omega) hzx
  have hcN : ucN X s = if uE s.data.toList = 0 then (bgN X s : Int) else 0 := rfl
  have hca := comp_all hn hx60 s
  have hld := leads_is hn s
  have hle := bgN_le X s
  rw [wbgF, wbgT, if_pos hn, if_pos hn, hn] at cb
  obtain ⟨f, hf⟩ : ∃ z, bgF X s = z := ⟨_, rfl⟩
  obtain ⟨m, hm⟩ : ∃ z, bgN X s = z := ⟨_, rfl⟩
  obtain ⟨er, her⟩ : ∃ z, uE s.data.toList = z := ⟨_, rfl⟩
  obtain ⟨cN, hcN2⟩ : ∃ z, ucN X s = z := ⟨_, rfl⟩
  obtain ⟨oS, hoS⟩ : ∃ z, ustN (staQ (rnW X)) (rnW X) s.data.toList = z := ⟨_, rfl⟩
  obtain ⟨oE, hoE⟩ : ∃ z, ustE (rnW X) s.data.toList = z := ⟨_, rfl⟩
  obtain ⟨pE, hpE⟩ : ∃ z, ucpE s 1000 = z := ⟨_, rfl⟩
  obtain ⟨pS, hpS⟩ : ∃ z, ucpS X s 1000 = z := ⟨_, rfl⟩
  simp only [hf, hm, her, hcN2, hoS, hoE, hpE, hpS] at cc cp ct cb hcN hca hld
  rw [hf, hm, hnx] at hle
  have CC := Lib.hid cc; have CP := Lib.hid cp; have CT := Lib.hid ct; have CB := Lib.hid cb; have HCA := Lib.hid hca; have HLD := Lib.hid hld; have HLE := Lib.hid hle; have HX60 := Lib.hid hx60
  clear cc cp ct cb hca hld hle hx60 hf hm her hcN2 hoS hoE hpE hpS hn hzx hd hv hnx hX hs8
  by_cases he : er = 0
  rotate_left
  · rw [if_neg he] at hcN
    subst hcN
    have e1 : (er == 0) = false := by simpa using he
    have e2 : (er != 0) = true := by simpa using he
    go_wp2_with fail
    refine (CC.out _ (Below.refl _ _)).mono ?_
    rintro e w3 ⟨rfl, b3⟩
    have B3 := Lib.hid (B2.out.trans (b3.mono B2.out.size))
    clear b3
    go_wp2
    go_ret
    exact ⟨rfl, B3.out⟩
  subst he
  rw [if_pos (by first | rfl | trivial)] at hcN
  subst hcN
  obtain ⟨h1, h2⟩ := HCA.out (by first | rfl | trivial)
  subst h1
  have HPS := Lib.hid h2
  clear h2
  go_wp2_with fail
  refine (CC.out _ (Below.refl _ _)).mono ?_
  rintro e w3 ⟨rfl, b3⟩
  have B3 := Lib.hid b3
  clear b3
  go_wp2_with fail
  refine (CB.out _ B3.out).mono ?_
  rintro e w4 ⟨rfl, b4⟩
  have B4 := Lib.hid (B3.out.trans (b4.mono B3.out.size))
  clear b4
  go_wp2_with fail
  refine (CP.out _ B4.out).mono ?_
  rintro e w5 ⟨vc, rfl, hvc, b5⟩
  have B5 := Lib.hid (B4.out.trans (b5.mono B4.out.size)); have HVC := Lib.hid hvc
  clear b5 hvc
  go_wp2_with fail
  refine (CT.out _ B5.out).mono ?_
  rintro e w6 ⟨rfl, b6⟩
  have hb6 := B5.out.trans (b6.mono B5.out.size)
  have hfm := HLE.out
  obtain ⟨hsl, hvs⟩ := slice_wd (HV.out.below hb6) HNX.out f (f + m) (by omega) hfm
  have ezz : ((f + m : Nat) : Int) = (f : Int) + (m : Int) := by omega
  have eyy : f + m - f = m := by omega
  rw [eyy] at hsl hvs
  rw [ezz] at hsl
  have csm := refSame9_any vc (.slice (cutW2 Av cv f) m (cv - f)) pS _ w6 (HVC.out.below b6) hvs
  rw [HPS.out, decide_eq_true rfl] at csm
  have B6 := Lib.hid (B2.out.trans (hb6.mono B2.out.size)); have CSM := Lib.hid csm
  have hx6 := HX60.out
  have hnx6 : nx ≤ 60 := by have := HNX.out; omega
  have wsub : IntKind.i64.wrap ((f : Int) + (m : Int) - (f : Int)) = (m : Int) := by rw [IntKind.wrap_i64]; omega
  clear hb6 hvs b6 csm HVC HV hx6
  have hld := HLD.out (by first | rfl | trivial)
  rcases hld with ⟨h1, rfl⟩ | ⟨h1, h2, rfl⟩ | ⟨h1, h2, rfl⟩
  · have k1 : (0 : Int) < (m : Int) := by omega
    have k2 : decide ((0 : Int) < (m : Int)) = true := decide_eq_true k1
    go_wp2_with (go_at_call 37; refine CSM.out.mono ?_; rintro e w7 ⟨rfl, nd, rfl⟩)
    go_ret
    exact ⟨rfl, below_draws B6.out _⟩
  · subst h2
    have k1 : ¬ (0 : Int) < (m : Int) := by omega
    have k2 : decide ((0 : Int) < (m : Int)) = false := decide_eq_false k1
    clear h1
    go_wp2_with (go_at_call 37; refine CSM.out.mono ?_; rintro e w7 ⟨rfl, nd, rfl⟩)
    go_ret
    exact ⟨rfl, below_draws B6.out _⟩
  · have k3 : (s.toList == []) = false := by
      cases hq : s.toList with
      | nil => exact absurd (key_ext (by rw [← Lib.toList_data, hq])) h2
      | cons a t => rfl
    have k1 : ¬ (0 : Int) < (m : Int) := by omega
    have k2 : decide ((0 : Int) < (m : Int)) = false := decide_eq_false k1
    clear h1
    have k4 : s.toList.isEmpty = false := by
      cases hq : s.toList with
      | nil => rw [hq] at k3; cases k3
      | cons a t => rfl
    go_wp2_with (go_at_call 37; refine CSM.out.mono ?_; rintro e w7 ⟨rfl, nd, rfl⟩)
    go_ret
    exact ⟨rfl, below_draws B6.out _⟩
end Go.Proofs.YtljaibhhkjapmaaDoor

