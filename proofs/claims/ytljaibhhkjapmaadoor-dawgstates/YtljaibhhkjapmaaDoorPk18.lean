/- Texts that several proofs of this seat share, one behind the other: USplit USearch XLays XPlace XBeg UBeg. -/
import Derived.Test.YtljaibhhkjapmaaDoorPk17
import Derived.Test.YtljaibhhkjapmaaDoorPk8
import Derived.Test.YtljaibhhkjapmaaDoorPk6
import Derived.Test.YtljaibhhkjapmaaDoorShelf2
import Derived.Shelf.SlSortCmp.QuietGrown
import Derived.Shelf.SlSortCmp.WholeK
import Derived.Test.YtljaibhhkjapmaaDoorPk15
import Derived.Deep.LoopGhost
import Derived.BigRegion
import Derived.Test.YtljaibhhkjapmaaDoorPk9
import Derived.Deep.RegionHeld3
/- walk.Split: the words of which a text is made. -/
namespace Go.Proofs.YtljaibhhkjapmaaDoor
open Go.RowKit Go.Shelf
attribute [local go_sem] Oper.semAt_some
set_option linter.unusedSimpArgs false
set_option linter.unusedVariables false

/-- A row of texts. -/
def txCell (s : ByteArray) : List Value := [.string s]
theorem tx_len (s : ByteArray) : (txCell s).length = 1 := rfl
theorem tx_one (s : ByteArray) : ∀ u ∈ txCell s, u.oneCell' = true := by
  intro u hu
  simp only [txCell, List.mem_cons, List.mem_nil_iff, or_false] at hu
  subst hu; rfl
theorem info_tx : (Tryd.prog.info? 9).map (fun i => (i.zero, i.size, i.bytes)) = some (some (.string ⟨#[]⟩), 1, 16) := by kernel_rfl
theorem append_tx (w : World) (base : Nat) (v : Value) (n : Nat) (pre : List ByteArray) (hown : w.ownsRow base 9 1 v n (gCells txCell pre)) (x : ByteArray) (hbase : base ≤ w.heap.size) (hlen : n ≤ 2000000) :
    ∃ v' w', (Builtin.append_ #[61, 61] 61 #[v, .slice (some ⟨w.heap.size, 0, none⟩) 1 1]).run Tryd.prog (w.alloc (.cells #[.string x] 9)) = .ok v' w' ∧
      w'.ownsRow base 9 1 v' (n + 1) (gCells txCell (pre ++ [x])) ∧ Below base w w' := by
  obtain ⟨v', w', hrun, h2, h3, _⟩ := append_one (P := Tryd.prog) (enc := txCell) (k := 1) tx_len tx_one info_tx rfl (by decide) (by decide) Tryd.underlying61 w base v n _ hown x hbase (by omega)
  exact ⟨v', w', hrun, by rw [gCells_snoc]; exact h2, ((Below.refl base w).alloc hbase _).grown h3 (by simp; omega) (fun k hk => (hown.lt k hk).1)⟩

def uspE (W : Rst) (s : List UInt8) : Int := if uE s = 0 then (if (cut W (uS s)).1 = 65 then 10 else 0) else uE s
def uspS (W : Rst) (s : List UInt8) : List ByteArray := if uE s = 0 then (spl W (uS s)).map mkT else []
set_option maxRecDepth 100000 in
theorem usplit_no (w : World) (d : Nat) (s : ByteArray) (hO : Okw w) (hs : s.size * 4 ≤ 140737488355328) (W : Rst) (he : uE s.data.toList ≠ 0) :
    Calls Tryd.prog 35 #[.pointer (some ⟨d, 0, none⟩), .string s] w fun e w' => ∃ v, e = .returned (.tuple #[v, .int .i64 (uspE W s.data.toList)]) ∧ GRuns txCell 1 w' v (uspS W s.data.toList) ∧ Below w.heap.size w w' := by
  rw [uspS, uspE, if_neg he, if_neg he]
  have cr := uread_any d s w hO hs
  obtain ⟨er, her⟩ : ∃ z, uE s.data.toList = z := ⟨_, rfl⟩
  obtain ⟨ls, hls⟩ : ∃ z, uS s.data.toList = z := ⟨_, rfl⟩
  rw [her, hls] at cr
  rw [her] at he ⊢
  have h1 : (er == 0) = false := by simpa using he
  have h2 : (er != 0) = true := by simpa using he
  have CR := Lib.hid cr
  clear cr he her hls
  go_enter Tryd.func35, Tryd.ntmps35
  go_wp2_with fail
  refine CR.out.mono ?_
  rintro e w3 ⟨A, c, rfl, hr, b3⟩
  have HB3 := Lib.hid b3
  clear hr b3
  go_wp2
  go_ret2
  exact ⟨_, rfl, GRuns.nil_ _ _ _, HB3.out⟩

set_option maxRecDepth 100000 in
set_option maxHeartbeats 16000000 in
theorem usplit_any (w : World) (d : Nat) (L : List Wrd) (hn : wisS L = 0) (Q : List Rst) (hQ : staQ (rnW L) = Q) (h : DgAt w d Q L) (s : ByteArray) (hO : Okw w) (hs : s.size * 4 ≤ 140737488355328) :
    Calls Tryd.prog 35 #[.pointer (some ⟨d, 0, none⟩), .string s] w fun e w' => ∃ v, e = .returned (.tuple #[v, .int .i64 (uspE (rnW L) s.data.toList)]) ∧ GRuns txCell 1 w' v (uspS (rnW L) s.data.toList) ∧ Below w.heap.size w w' := by
  by_cases he : uE s.data.toList = 0
  rotate_left
  · exact usplit_no w d s hO hs (rnW L) he
  obtain ⟨hv, hll, hus⟩ := uE_ok he
  rw [← hus] at hll
  have hrv : ∀ r ∈ uS s.data.toList, Lib.validRune r = true := by rw [hus]; exact items_runes _ hv
  have cr := uread_any d s w hO hs
  rw [uspS, uspE, if_pos he, if_pos he]
  rw [he] at cr
  obtain ⟨l, hl⟩ : ∃ z, uS s.data.toList = z := ⟨_, rfl⟩
  rw [hl] at cr hll hrv ⊢
  have hri := rnW_rising hn
  have hk := dgOk hn
  rw [hQ] at hk
  have h0 := no_empty hn
  obtain ⟨W, hW⟩ : ∃ z, rnW L = z := ⟨_, rfl⟩
  rw [hW] at hQ hri h0 ⊢
  obtain ⟨N, hN⟩ : ∃ z, l.length = z := ⟨_, rfl⟩
  rw [hN] at cr hll
  have cp := fun A c w' (hb : Below w.heap.size w w') hu => upart_any w' d L W hri h0 Q hQ hk (h.below hb) A N c l hN hll hu
  have hat := fun i (hi : i ≤ l.length) => prt_at W l i hi
  have c0 : (prt W l)[0]? = some (cut W l) := by have := hat 0 (Nat.zero_le _); rwa [List.drop_zero] at this
  have csp := fun v w' (a b : Nat) (hu : Runs w' v ((l.drop a).take b)) => uspelled_any v _ w' hu (by rw [List.length_take, List.length_drop]; omega) (fun r hr => hrv r (List.mem_of_mem_drop (List.mem_of_mem_take hr)))
  have HAT := Lib.hid hat; have CSP := Lib.hid csp; have CP := Lib.hid cp; have CR := Lib.hid cr; have HN := Lib.hid hN; have H0 := Lib.hid h0; have HC0 := Lib.hid c0
  clear cr cp csp hat hN hri hk hQ h hn hW hO hs hv hus hrv he hl c0
  by_cases hc : (cut W l).1 = 65
  · have hsp : spl W l = [] := by unfold spl; rw [if_pos hc]
    rw [if_pos hc, hsp]
    have HC := Lib.hid hc
    clear hc hsp
    go_enter Tryd.func35, Tryd.ntmps35
    go_wp2_with fail
    refine CR.out.mono ?_
    rintro e w3 ⟨A, c, rfl, hr, b3⟩
    have HB3 := Lib.hid b3; have HR3 := Lib.hid hr
    clear hr b3
    go_wp2_with fail
    refine (CP.out _ _ _ HB3.out HR3.out).mono ?_
    rintro e w4 ⟨G, rfl, hp, b4, _⟩
    obtain ⟨g0, g1⟩ := pt_at hp HC0.out
    rw [HC.out] at g0
    have HB4 := Lib.hid (HB3.out.trans (b4.mono HB3.out.size))
    have j1 : (0 : Int) < (N : Int) + 1 := by omega
    clear hp b4
    go_wp2
    go_ret2
    exact ⟨_, rfl, GRuns.nil_ _ _ _, HB4.out⟩
  · rw [if_neg hc]
    have HC := Lib.hid hc
    have hcle := cut_le H0.out l
    obtain ⟨⟨a1, a2⟩, hcu⟩ : ∃ z, cut W l = z := ⟨_, rfl⟩
    have hc1 : ((a1 : Int) == 65) = false := by rw [hcu] at hc; simpa using (by simp only at hc; omega : ¬ (a1 : Int) = 65)
    have HCU := Lib.hid hcu
    clear hc hcu hcle
    go_enter Tryd.func35, Tryd.ntmps35
    go_wp2_with fail
    refine CR.out.mono ?_
    rintro e w3 ⟨A, c, rfl, hr, b3⟩
    have HB3 := Lib.hid b3; have HR3 := Lib.hid hr
    clear hr b3
    go_wp2_with fail
    refine (CP.out _ _ _ HB3.out HR3.out).mono ?_
    rintro e w4 ⟨G, rfl, hp, b4, hG4⟩
    obtain ⟨g0, g1⟩ := pt_at hp HC0.out
    rw [HCU.out] at g0
    have HB4 := Lib.hid (HB3.out.trans (b4.mono HB3.out.size)); have HP4 := Lib.hid hp; have HR4 := Lib.hid (HR3.out.below b4)
    have j1 : (0 : Int) < (N : Int) + 1 := by omega
    clear hp b4
    go_wp2
    clear g0 g1
    obtain ⟨n1, hn1⟩ : ∃ z, w4.heap.size = z := ⟨_, rfl⟩
    have HN1 := Lib.hid hn1
    clear hn1
    go_loopw [9, 10] (fun s9 s10 wr => ∃ (i : Nat) (pre : List (List Int)) (vo : Value), s9 = vo ∧ s10 = .int .i64 (i : Int) ∧ i ≤ N ∧ pre.length ≤ i ∧ Hid (spl W l = pre ++ spl W (l.drop i) ∧ (cut W (l.drop i)).1 ≠ 65) ∧ Hid (wr.ownsRow n1 9 1 vo pre.length (gCells txCell (pre.map mkT))) ∧ Hid (Below n1 w4 wr)) (fun _ s10 _ => N - (RowKit.intOf s10).toNat)
    case atStart => exact ⟨0, [], _, rfl, rfl, Nat.zero_le _, Nat.zero_le _, Lib.hid ⟨rfl, HC.out⟩, Lib.hid (World.ownsRow_nil _ _ _ _), Lib.hid (Below.refl _ _)⟩
    case round =>
      obtain ⟨i, pre, vo, rfl, rfl, hiN, hpl, HS, HR, HB⟩ := hrel
      by_cases hi : i < N
      · have hbw : Below w4.heap.size w4 wr := HN1.out.symm ▸ HB.out
        have hne : l.drop i ≠ [] := fun e => by have := congrArg List.length e; rw [List.length_drop, HN.out] at this; simp at this; omega
        obtain ⟨k1, k2, k3, k4, k5⟩ := cut_step H0.out hne HS.out.2 (by rw [List.length_drop, HN.out]; omega)
        have hsc := spl_cons H0.out hne HS.out.2 (by rw [List.length_drop, HN.out]; omega)
        have hcat := HAT.out i (by rw [HN.out]; exact hiN)
        rw [List.drop_drop] at k5 hsc
        rw [List.length_drop, HN.out] at k2
        obtain ⟨⟨b1, b2⟩, hb⟩ : ∃ z, cut W (l.drop i) = z := ⟨_, rfl⟩
        rw [hb] at k1 k2 k5 hsc hcat
        simp only at k1 k2 k5 hsc hcat
        obtain ⟨g0, g1⟩ := pt_at (HP4.out.below hbw) hcat
        simp only at g1
        have hrr := HR4.out.below hbw
        obtain ⟨q, hq⟩ : ∃ q, i + b2 = q := ⟨_, rfl⟩
        rw [hq] at k5 hsc
        obtain ⟨hsl, hvs⟩ := slice_lh32 hrr HN.out i q (by omega) (by omega)
        have eb : q - i = b2 := by omega
        rw [eb] at hsl hvs
        have cs := CSP.out _ _ _ _ hvs
        obtain ⟨tx, htx⟩ : ∃ z, mkT ((l.drop i).take b2) = z := ⟨_, rfl⟩
        rw [htx] at cs
        have hs2 : Hid (spl W l = (pre ++ [(l.drop i).take b2]) ++ spl W (l.drop q) ∧ (cut W (l.drop q)).1 ≠ 65) := Lib.hid ⟨by rw [HS.out.1, hsc, List.append_assoc]; rfl, k5⟩
        have i1 : (i : Int) < (N : Int) := by omega
        have i2 : (i : Int) < (N : Int) + 1 := by omega
        have hqN : q ≤ N ∧ pre.length + 1 ≤ q := by omega
        have hmi : i < q := by omega
        have hp6 : pre.length ≤ 2000000 := by omega
        have wk : IntKind.i64.wrap ((i : Int) + (b2 : Int)) = (q : Int) := by rw [IntKind.wrap_i64]; omega
        have HTX := Lib.hid htx; have CS := Lib.hid cs
        clear hcat hvs cs htx hb hne k1 k2 k3 k4 k5 hsc hrr hq eb g0
        go_wp2_with fail
        refine CS.out.mono ?_
        rintro e w5 ⟨rfl, b5⟩
        have hn5 : n1 ≤ wr.heap.size := by rw [← HN1.out]; exact hbw.size
        have hb5 := HB.out.trans (b5.mono hn5)
        have g1' := cell_keep b5 g1
        obtain ⟨v9, w9, hrun, hown9, hb9⟩ := append_tx w5 n1 _ pre.length _ (own_below HR.out b5) tx (Nat.le_trans hn5 b5.size) hp6
        have g19 := (hb9.cell (p := ⟨G, i * 2 + 1, none⟩) (by rw [← HN1.out]; exact Bx.lt HP4.out)).trans g1'
        have hlp : (pre ++ [(l.drop i).take b2]).length = pre.length + 1 := by simp
        have hmp : (pre ++ [(l.drop i).take b2]).map mkT = pre.map mkT ++ [tx] := by rw [List.map_append, List.map_cons, List.map_nil, HTX.out]
        obtain ⟨pr2, hpr2⟩ : ∃ z, pre ++ [(l.drop i).take b2] = z := ⟨_, rfl⟩
        rw [hpr2] at hs2 hlp hmp
        rw [← hmp, ← hlp] at hown9
        have HRUN := Lib.hid hrun; have HOWN := Lib.hid hown9; have HB9 := Lib.hid (hb5.trans hb9)
        have hpq : pr2.length ≤ q := by rw [hlp]; exact hqN.2
        have hqn := hqN.1
        clear hrun hown9 hb9 hb5 b5 hlp hmp hpr2 hqN hpl hp6
        go_wp2_with (first
          | (at_builtin; refine wpList_append_run (.tmp 39) (.tmp 51) 61 _ _ _ _ HRUN.out rfl rfl rfl rfl ?_))
        exact ⟨⟨q, pr2, _, rfl, rfl, hqn, hpq, hs2, HOWN, HB9⟩, by simp [RowKit.intOf]; omega⟩
      · have hiN2 : i = N := by omega
        have i1 : ¬ (i : Int) < (N : Int) := by omega
        have hfin : spl W l = pre := by
          have h1 := HS.out.1
          rw [hiN2, ← HN.out, List.drop_length, spl_nil, List.append_nil] at h1
          exact h1
        have hrun := GRuns.of_own tx_len (by rw [List.length_map]) HR.out
        rw [← hfin] at hrun
        have HF := Lib.hid hrun
        have HBF := Lib.hid (HB4.out.trans ((HN1.out.symm ▸ HB.out : Below w4.heap.size w4 wr).mono HB4.out.size))
        clear hrun hfin HS HR
        go_wp2
        go_ret2
        exact ⟨_, rfl, HF.out, HBF.out⟩
end Go.Proofs.YtljaibhhkjapmaaDoor

/- sort.Search, where what it asks lays blocks of its own: by how many places stand ahead. -/
namespace Go.Proofs.YtljaibhhkjapmaaDoor
open Go.RowKit Go.Shelf Go.Lib
set_option linter.unusedSimpArgs false
set_option linter.unusedVariables false

set_option maxRecDepth 100000 in
set_option maxHeartbeats 8000000 in
theorem usearch_any (g : Nat) (lb : Array Value) (eg : ∀ args w, (callFunc g args).run Tryd.prog w = .ok (.enter g args) w) (n m : Nat) (p : Nat → Bool) (w : World) (hn : n ≤ 2000000) (hm : m ≤ n)
    (hf : ∀ (w' : World) (i : Nat), Below w.heap.size w w' → i < n → Calls Tryd.prog g (#[.int .i64 (i : Int)] ++ lb) w' fun e w'' => e = .returned (.bool (p i)) ∧ Below w'.heap.size w' w'')
    (h1 : ∀ i, i < m → p i = false) (h2 : ∀ i, m ≤ i → i < n → p i = true) :
    Calls Tryd.prog 84 #[.int .i64 (n : Int), .func (.func g) #[] lb] w fun e w' => e = .returned (.int .i64 (m : Int)) ∧ Below w.heap.size w w' := by
  have HF := Lib.hid hf; have H1 := Lib.hid h1; have H2 := Lib.hid h2
  clear hf h1 h2
  go_enter Tryd.func84, Tryd.ntmps84
  go_wp2
  go_loopg [5, 6] n (fun kx s5 s6 wr => ∃ lo hi : Nat, s5 = .int .i64 (lo : Int) ∧ s6 = .int .i64 (hi : Int) ∧ lo ≤ m ∧ m ≤ hi ∧ hi ≤ n ∧ hi - lo ≤ kx ∧ Hid (Below w.heap.size w wr))
  case atStart => exact ⟨0, n, rfl, rfl, Nat.zero_le _, hm, Nat.le_refl _, by omega, Lib.hid (Below.refl _ _)⟩
  case round =>
    obtain ⟨lo, hi, rfl, rfl, hlo, hhi, hin, hg, BW⟩ := hrel
    by_cases hlh : lo < hi
    · obtain ⟨h, hh⟩ : ∃ h, (lo + hi) / 2 = h := ⟨_, rfl⟩
      have hz : ((lo : Int) + (hi : Int)) / 2 = (h : Int) := by omega
      have hn1 : h < n := by omega
      have c1 := HF.out wr h BW.out hn1
      have HY1 : Hid (p h = false → h < m) := Lib.hid (fun e => by
        rcases Nat.lt_or_ge h m with q | q
        · exact q
        · rw [H2.out h q hn1] at e; cases e)
      have HY2 : Hid (p h = true → m ≤ h) := Lib.hid (fun e => by
        rcases Nat.lt_or_ge h m with q | q
        · rw [H1.out h q] at e; cases e
        · exact q)
      obtain ⟨ph, hph⟩ : ∃ z, p h = z := ⟨_, rfl⟩
      rw [hph] at c1 HY1 HY2
      have C1 := Lib.hid c1
      clear c1 hph hn1
      cases ph
      · have hlt' := HY1.out rfl
        go_wp2_with (go_at_fn g; refine C1.out.mono ?_; rintro e w4 ⟨rfl, b4⟩; have B4 := Lib.hid (BW.out.trans (b4.mono BW.out.size)); clear b4)
        go_roundg (hi - (h + 1))
        case measure => omega
        case rel => exact ⟨h + 1, hi, by go_num, rfl, by omega, hhi, hin, Nat.le_refl _, B4⟩
      · have hge := HY2.out rfl
        go_wp2_with (go_at_fn g; refine C1.out.mono ?_; rintro e w4 ⟨rfl, b4⟩; have B4 := Lib.hid (BW.out.trans (b4.mono BW.out.size)); clear b4)
        go_roundg (h - lo)
        case measure => omega
        case rel => exact ⟨lo, h, rfl, rfl, hlo, hge, by omega, Nat.le_refl _, B4⟩
    · obtain rfl : lo = m := by omega
      obtain rfl : hi = lo := by omega
      go_wp2
      go_ret
      exact ⟨rfl, BW.out⟩
end Go.Proofs.YtljaibhhkjapmaaDoor

/- The functions that sort and search words: together$1, moreFrequent, place$1, cmp.Or. -/
namespace Go.Proofs.YtljaibhhkjapmaaDoor
open Go.RowKit Go.Shelf Go.Lib
open Go.Sort (grow alloc_eq_grow grow_grow SWO PermIn SortedIn HoldsK)
set_option linter.unusedSimpArgs false
set_option linter.unusedVariables false

theorem xgrow_more (w : World) (q q2 : Nat) (os o2 : Array Obj) : ∃ q' os', grow ((grow (w.drewN q) os).drewN q2) o2 = grow (w.drewN q') os' := ⟨q + q2, os ++ o2, by simp [grow, World.drewN, Nat.add_assoc, Array.append_assoc]⟩
theorem xbelow_grows (w : World) (q : Nat) (os : Array Obj) : Below w.heap.size w (grow (w.drewN q) os) :=
  ⟨rfl, rfl, rfl, by simp [grow, World.drewN], fun k hk => by
    show (w.heap ++ os)[k]? = _
    rw [Array.getElem?_append_left hk]⟩
/-- By their texts. -/
def cmpT (x y : Wrd) : Int := cmpK x.1 y.1
theorem ltOf_cmpT (x y : Wrd) : ltOf cmpT x y = ltK x.1 y.1 := by
  unfold ltOf cmpT
  have := cmpK_neg x.1 y.1
  rw [Bool.eq_iff_iff]
  simpa using this
theorem swo_cmpT : SWO (ltOf cmpT) where
  irrefl x := by rw [ltOf_cmpT]; exact ltK_irrefl _
  trans x y z h1 h2 := by rw [ltOf_cmpT] at *; exact ltK_on h1 h2
  ntrans x y z h1 h2 := by rw [ltOf_cmpT] at *; exact ltK_ge_on h2 h1
/-- The more frequent one first. -/
def cmpFq (x y : Wrd) : Int := if Lib.compareInt y.2 x.2 = 0 then cmpK x.1 y.1 else Lib.compareInt y.2 x.2
theorem ltOf_cmpFq (x y : Wrd) : ltOf cmpFq x y = true ↔ ltF x y := by
  have h := cmpK_neg x.1 y.1
  unfold ltOf cmpFq ltF Lib.compareInt
  by_cases h1 : y.2 < x.2
  · simp [h1]
  · by_cases h2 : x.2 < y.2
    · simp [h1, h2]; omega
    · have e : x.2 = y.2 := by omega
      simp [e, h]
theorem swo_cmpFq : SWO (ltOf cmpFq) where
  irrefl x := by
    cases h : ltOf cmpFq x x with
    | false => rfl
    | true => exact absurd ((ltOf_cmpFq x x).1 h) (ltF_not ((ltOf_cmpFq x x).1 h))
  trans x y z h1 h2 := by rw [ltOf_cmpFq] at *; exact ltF_trans h1 h2
  ntrans x y z h1 h2 := by
    cases h3 : ltOf cmpFq x z with
    | false => rfl
    | true =>
      exfalso
      have k1 : ¬ ltF x y := fun e => by rw [(ltOf_cmpFq x y).2 e] at h1; cases h1
      have k2 : ¬ ltF y z := fun e => by rw [(ltOf_cmpFq y z).2 e] at h2; cases h2
      have k3 := (ltOf_cmpFq x z).1 h3
      have a1 : x.2 ≤ y.2 := Int.not_lt.1 (fun h => k1 (.inl h))
      have a2 : y.2 ≤ z.2 := Int.not_lt.1 (fun h => k2 (.inl h))
      rcases k3 with h | ⟨h, h'⟩
      · omega
      · have e1 : x.2 = y.2 := by omega
        have e2 : y.2 = z.2 := by omega
        have b1 : ltK x.1 y.1 = false := by
          cases hb : ltK x.1 y.1 with
          | false => rfl
          | true => exact absurd (.inr ⟨e1, hb⟩) k1
        have b2 : ltK y.1 z.1 = false := by
          cases hb : ltK y.1 z.1 with
          | false => rfl
          | true => exact absurd (.inr ⟨e2, hb⟩) k2
        rw [ltK_ge_on b2 b1] at h'
        cases h'

set_option maxRecDepth 100000 in
set_option maxHeartbeats 4000000 in
theorem plc1_lays (a : ByteArray) (N : Int) (s : ByteArray) (w : World) :
    Calls Tryd.prog 91 #[.agg #[.string a, .int .i64 N], .string s] w fun e w' => e = .returned (.int .i64 (cmpK a s)) ∧ ∃ q os, w' = grow (w.drewN q) os := by
  have c1 := fun w => Tryd.strings_Compare a s w
  have hc : Lib.compareBytes a.data.toList s.data.toList = cmpK a s := rfl
  rw [hc] at c1
  obtain ⟨r, hr⟩ : ∃ r, cmpK a s = r := ⟨_, rfl⟩
  rw [hr] at c1 ⊢
  have C1 := Lib.hid c1
  clear c1 hc hr
  have h1 : Hid (∀ o : Obj, ∃ q os, w.alloc o = grow (w.drewN q) os) := Lib.hid (fun o => ⟨0, _, by rw [alloc_eq_grow]; rfl⟩)
  go_enter Tryd.func91, Tryd.ntmps91
  go_wp2_with fail
  refine (C1.out _).mono ?_
  rintro e w1 ⟨rfl, rfl⟩
  go_wp2
  go_ret
  exact ⟨rfl, h1.out _⟩
end Go.Proofs.YtljaibhhkjapmaaDoor

/- slices.BinarySearchFunc over words, lexicon.place, Find. -/
namespace Go.Proofs.YtljaibhhkjapmaaDoor
open Go.RowKit Go.Shelf Go.Lib
open Go.Sort (grow)
set_option linter.unusedSimpArgs false
set_option linter.unusedVariables false

/-- What a call keeps: a word of the row, all that is old. -/
structure XOne (w : World) (b p : Nat) (y : Wrd) (w' : World) : Prop where
  a0 : w'.cell? ⟨b, p, none⟩ = some (.string y.1)
  a1 : w'.cell? ⟨b, p + 1, none⟩ = some (.int .i64 y.2)
  lt : b < w'.heap.size
  bel : Below w.heap.size w w'
theorem XOne.step {w : World} {b p : Nat} {y : Wrd} {w' w'' : World} (h : XOne w b p y w') (hb : Below w'.heap.size w' w'') : XOne w b p y w'' :=
  ⟨(hb.cell (p := ⟨b, _, none⟩) h.lt).trans h.a0, (hb.cell (p := ⟨b, _, none⟩) h.lt).trans h.a1, Nat.lt_of_lt_of_le h.lt hb.size, h.bel.trans (hb.mono h.bel.size)⟩
theorem xgrow_cell {w : World} {p : Addr} {v : Value} (q : Nat) (os : Array Obj) (h : w.cell? p = some v) : (grow (w.drewN q) os).cell? p = some v := cell_keep (xbelow_grows w q os) h

set_option maxRecDepth 100000 in
set_option maxHeartbeats 8000000 in
theorem xbsearch_any (A : Option Addr) (n c : Nat) (l : List Wrd) (s : ByteArray) (w : World) (hn : l.length = n) (hu : WRuns w (.slice A n c) l) (hl : n ≤ 2000000) (m : Nat) (hm : m ≤ n)
    (h1 : ∀ j y, j < m → l[j]? = some y → ltK y.1 s = true) (h2 : ∀ j y, m ≤ j → l[j]? = some y → ltK y.1 s = false) :
    Calls Tryd.prog 90 #[.slice A n c, .string s, .func (.func 91) #[] #[]] w fun e w' =>
      e = .returned (.tuple #[.int .i64 (m : Nat), .bool (isAt l m s)]) ∧ Below w.heap.size w w' := by
  have C := Lib.hid plc1_lays
  obtain ⟨res, hres⟩ : ∃ z, isAt l m s = z := ⟨_, rfl⟩
  rw [hres]
  have HR := Lib.hid hres; clear hres
  have HU := Lib.hid hu
  have H1 := Lib.hid h1; have H2 := Lib.hid h2; have HN := Lib.hid hn
  clear h1 h2 hn hu
  go_enter Tryd.func90, Tryd.ntmps90
  have hmix : Tryd.prog.follows .mixedOrders = true := by kernel_rfl
  have eg : ∀ args w, (callFunc 91 args).run Tryd.prog w = .ok (.enter 91 args) w := enters_of Tryd.func91 (by kernel_rfl) rfl
  have HEG := Lib.hid eg; clear eg
  go_wp2
  go_loopg [9, 10] n (fun kx s9 s10 wr => ∃ lo hi : Nat, s9 = .int .i64 lo ∧ s10 = .int .i64 hi ∧ lo ≤ m ∧ m ≤ hi ∧ hi ≤ n ∧ hi - lo ≤ kx ∧ Hid (Below w.heap.size w wr))
  case atStart => exact ⟨0, n, rfl, rfl, Nat.zero_le _, hm, Nat.le_refl _, by omega, Lib.hid (Below.refl _ _)⟩
  case round =>
    obtain ⟨lo, hi, rfl, rfl, hlo, hhi, hin, hg, BW⟩ := hrel
    by_cases hlh : lo < hi
    · obtain ⟨h, hh⟩ : ∃ h, (lo + hi) / 2 = h := ⟨_, rfl⟩
      have hz : ((lo : Int) + (hi : Int)) / 2 = (h : Int) := by omega
      have hn1 : h < n := by omega
      have i1 : (h : Int) < (n : Int) := by omega
      obtain ⟨⟨y1, y2⟩, hy⟩ : ∃ y, l[h]? = some y := ⟨_, List.getElem?_eq_getElem (by rw [HN.out]; exact hn1)⟩
      obtain ⟨b, o, rfl, hblt, hc⟩ := (HU.out.below BW.out).cells HN.out (by omega)
      obtain ⟨g0, g1⟩ := wrd_cells hc hy
      simp only at g0 g1
      have c1 := fun w => C.out y1 y2 s w
      have h3 := cmpK_neg y1 s
      obtain ⟨er, her⟩ : ∃ z, cmpK y1 s = z := ⟨_, rfl⟩
      simp only [her] at c1
      rw [her] at h3
      have HY1 : Hid (er < 0 → h < m) := Lib.hid (fun e => by
          rcases Nat.lt_or_ge h m with q | q
          · exact q
          · have := H2.out h _ q hy
            rw [h3.1 e] at this; cases this)
      have HY2 : Hid (¬ er < 0 → m ≤ h) := Lib.hid (fun e => by
          rcases Nat.lt_or_ge h m with q | q
          · exact absurd (h3.2 (H1.out h _ q hy)) e
          · exact q)
      have C1 := Lib.hid c1
      clear hc hy h3 her c1
      have F0 := fun q os => xgrow_cell (w := wr) q os g0; have F1 := fun q os => xgrow_cell (w := wr) q os g1
      by_cases hneg : er < 0
      · have hlt' := HY1.out hneg
        go_wp2_with fail
        refine (C1.out _).mono ?_
        rintro e w4 ⟨rfl, q4, o4, h4⟩
        have b4 : Below wr.heap.size wr w4 := by rw [h4]; exact xbelow_grows _ _ _
        have B4 := Lib.hid (BW.out.trans (b4.mono BW.out.size))
        clear h4 b4
        go_wp2
        go_roundg (hi - (h + 1))
        case measure => omega
        case rel => exact ⟨h + 1, hi, by go_num, rfl, by omega, hhi, hin, Nat.le_refl _, B4⟩
      · have hge := HY2.out hneg
        go_wp2_with fail
        refine (C1.out _).mono ?_
        rintro e w4 ⟨rfl, q4, o4, h4⟩
        have b4 : Below wr.heap.size wr w4 := by rw [h4]; exact xbelow_grows _ _ _
        have B4 := Lib.hid (BW.out.trans (b4.mono BW.out.size))
        clear h4 b4
        go_wp2
        go_roundg (h - lo)
        case measure => omega
        case rel => exact ⟨lo, h, rfl, rfl, hlo, hge, by omega, Nat.le_refl _, B4⟩
    · obtain rfl : lo = m := by omega
      obtain rfl : hi = lo := by omega
      by_cases hmn : hi < n
      · have i1 : (hi : Int) < (n : Int) := by omega
        obtain ⟨⟨y1, y2⟩, hy⟩ : ∃ y, l[hi]? = some y := ⟨_, List.getElem?_eq_getElem (by rw [HN.out]; exact hmn)⟩
        obtain ⟨b, o, rfl, hblt, hc⟩ := (HU.out.below BW.out).cells HN.out (by omega)
        obtain ⟨g0, g1⟩ := wrd_cells hc hy
        simp only at g0 g1
        have c1 := fun w => C.out y1 y2 s w
        have h3 := cmpK_zero y1 s
        obtain ⟨er, her⟩ : ∃ z, cmpK y1 s = z := ⟨_, rfl⟩
        simp only [her] at c1
        rw [her] at h3
        have hr : Hid (res = (er == 0)) := Lib.hid (by
          rw [← HR.out]
          unfold isAt
          rw [hy]
          simp only
          by_cases e : er = 0
          · rw [decide_eq_true (h3.1 e), e]; rfl
          · rw [decide_eq_false (fun q => e (h3.2 q))]; simp [e])
        have C1 := Lib.hid c1
        clear hc hy h3 her c1
        go_wp2_with fail
        refine (C1.out _).mono ?_
        rintro e w4 ⟨rfl, q4, o4, h4⟩
        have b4 : Below wr.heap.size wr w4 := by rw [h4]; exact xbelow_grows _ _ _
        have B4 := Lib.hid (BW.out.trans (b4.mono BW.out.size))
        clear h4 b4
        go_wp2
        go_ret2
        exact ⟨by rw [hr.out]; rfl, B4.out⟩
      · obtain rfl : hi = n := by omega
        have hr : Hid (res = false) := Lib.hid (by
          rw [← HR.out]
          unfold isAt
          rw [List.getElem?_eq_none (by rw [HN.out]; exact Nat.le_refl _)])
        have i1 : ¬ (hi : Int) < (hi : Int) := by omega
        go_wp2
        go_ret2
        exact ⟨by rw [hr.out]; rfl, BW.out⟩
set_option maxRecDepth 100000 in
set_option maxHeartbeats 4000000 in
theorem xplace_any (u : Value) (l : List Wrd) (s : ByteArray) (w : World) (hu : WRuns w u l) (hl : l.length ≤ 2000000) (hs : SrtW l) :
    Calls Tryd.prog 63 #[u, .string s] w fun e w' => e = .returned (.tuple #[.int .i64 (bgF l s : Nat), .bool (isAt l (bgF l s) s)]) ∧ Below w.heap.size w w' := by
  obtain ⟨A, c, e⟩ := hu.slice
  subst e
  obtain ⟨h1, h2⟩ := bgF_srt hs s
  have c1 := xbsearch_any A l.length c l s w rfl hu hl (bgF l s) (bgF_le l s) h1 h2
  obtain ⟨n, hn⟩ : ∃ n, l.length = n := ⟨_, rfl⟩
  obtain ⟨m, hm⟩ : ∃ m, bgF l s = m := ⟨_, rfl⟩
  rw [hn, hm] at c1
  obtain ⟨st, hst⟩ : ∃ z, isAt l m s = z := ⟨_, rfl⟩
  rw [hst] at c1
  rw [hn, hm, hst]
  have C1 := Lib.hid c1
  clear c1 hn hm hst h1 h2 hu hl hs
  go_enter Tryd.func63, Tryd.ntmps63
  go_wp2_with fail
  refine C1.out.mono ?_
  rintro e w1 ⟨rfl, b1⟩
  have B1 := Lib.hid b1; clear b1
  go_wp2
  go_ret2
  exact ⟨rfl, B1.out⟩
set_option maxRecDepth 100000 in
set_option maxHeartbeats 8000000 in
theorem xfind_any (u : Value) (l : List Wrd) (s : ByteArray) (w : World) (hO : Okw w) (hu : WRuns w u l) (hl : l.length ≤ 2000000) (hz : szW l) :
    Calls Tryd.prog 41 #[u, .string s] w fun e w' => e = .returned (.tuple #[.int .i64 (wfS l s), .int .i64 (wfE l s)]) ∧ Below w.heap.size w w' := by
  have ce := xis_any u l w hO hu hl hz
  by_cases h0 : wisS l = 0
  · obtain ⟨hal, hsr, _⟩ := wisS_facts h0
    have hcb := frB_of hal
    rw [wfS, wfE, if_pos h0, if_pos h0]
    rw [h0] at ce
    have cs := fun w hu => xplace_any u l s w hu hl hsr
    obtain ⟨hf1, hf2⟩ := isAt_frq hsr hcb s
    have hst : isAt l (bgF l s) s = match l[bgF l s]? with | some y => decide (y.1 = s) | none => false := rfl
    obtain ⟨A, c, e⟩ := hu.slice
    subst e
    obtain ⟨n, hn⟩ : ∃ n, l.length = n := ⟨_, rfl⟩
    obtain ⟨m, hm⟩ : ∃ z, bgF l s = z := ⟨_, rfl⟩
    obtain ⟨L0, hL0⟩ : ∃ z, frq l s = z := ⟨_, rfl⟩
    rw [hL0] at hf1 hf2 ⊢
    rw [hm] at hf1 hf2 hst
    simp only [hm] at cs
    obtain ⟨st, hst2⟩ : ∃ z, isAt l m s = z := ⟨_, rfl⟩
    rw [hst2] at hf1 hst
    simp only [hst2] at cs
    obtain ⟨er, her⟩ : ∃ z, (if L0 = 0 then (10 : Int) else 0) = z := ⟨_, rfl⟩
    rw [her]
    rw [hn] at hu ce hl ⊢
    simp only [hn] at cs
    have CE := Lib.hid ce; have HU := Lib.hid hu; have HN := Lib.hid hn; have CS := Lib.hid cs; have HST := Lib.hid hst; have HF1 := Lib.hid hf1; have HF2 := Lib.hid hf2; have HER := Lib.hid her
    clear ce hu hn cs hst hf1 hf2 her hst2 hm hL0 hcb hsr hal h0 hz hO
    go_enter Tryd.func41, Tryd.ntmps41
    go_wp2_with fail
    refine CE.out.mono ?_
    rintro e w1 ⟨rfl, b1⟩
    have U1 := Lib.hid (HU.out.below b1)
    have B1 := Lib.hid b1
    clear b1
    go_wp2_with fail
    refine (CS.out _ U1.out).mono ?_
    rintro e w3 ⟨rfl, b3⟩
    have U3 := Lib.hid (U1.out.below b3)
    have B3 : Hid (Below w.heap.size w w3) := Lib.hid (B1.out.trans (b3.mono B1.out.size))
    clear b3
    cases st
    · have h1 : L0 = 0 := HF1.out (by first | rfl | trivial)
      subst h1
      have e2 : Hid (er = 10) := Lib.hid (by rw [← HER.out]; rfl)
      go_wp2
      go_ret2
      exact ⟨by rw [e2.out]; rfl, B3.out⟩
    · obtain ⟨⟨y1, y2⟩, hy, hsame⟩ : ∃ y, l[m]? = some y ∧ y.1 = s := by
        cases hm : l[m]? with
        | none => have := HST.out; rw [hm] at this; cases this
        | some y => have := HST.out; rw [hm] at this; exact ⟨y, rfl, of_decide_eq_true this.symm⟩
      have hmn : m < n := by have := (List.getElem?_eq_some_iff.1 hy).1; rwa [HN.out] at this
      obtain ⟨hl1, hl2⟩ := HF2.out _ hy hsame
      simp only at hl1
      subst hl1
      have e2 : Hid (er = 0) := Lib.hid (by rw [← HER.out, if_neg hl2])
      obtain ⟨b, o, rfl, _, hc⟩ := U3.out.cells HN.out (by omega)
      obtain ⟨g0, g1⟩ := wrd_cells hc hy
      simp only at g0 g1
      have i1 : (m : Int) < (n : Int) := by omega
      clear hc hy hsame hl2
      go_wp2
      go_ret2
      exact ⟨by rw [e2.out]; rfl, B3.out⟩
  · have h0' : (wisS l == 0) = false := by simpa using h0
    rw [wfS, wfE, if_neg h0, if_neg h0]
    obtain ⟨er, her⟩ : ∃ z, wisS l = z := ⟨_, rfl⟩
    rw [her] at ce h0' ⊢
    have CE := Lib.hid ce
    clear ce hu hz h0 her hO
    go_enter Tryd.func41, Tryd.ntmps41
    go_wp2_with fail
    refine CE.out.mono ?_
    rintro e w1 ⟨rfl, b1⟩
    have B1 := Lib.hid b1; clear b1
    go_wp2
    go_ret2
    exact ⟨rfl, B1.out⟩
end Go.Proofs.YtljaibhhkjapmaaDoor

/- lexicon.Begins: where those stand that begin with some bytes. -/
namespace Go.Proofs.YtljaibhhkjapmaaDoor
open Go.RowKit Go.Shelf
attribute [local go_sem] Oper.semAt_some
set_option linter.unusedSimpArgs false
set_option linter.unusedVariables false

/-- Behind the last of some places, as it is stored. -/
def bhw (m : Nat) (pre : List Nat) : Int := match pre.getLast? with
  | none => (m : Int)
  | some j => IntKind.i64.wrap ((j : Int) + 1)
theorem bhw_range (m k : Nat) (h : m + k ≤ 2000000) : bhw m (List.range' m k) = (m : Int) + (k : Int) := by
  cases k with
  | zero => simp [bhw]
  | succ k =>
    unfold bhw
    rw [List.range'_concat, List.getLast?_concat]
    simp only
    rw [IntKind.wrap_i64]
    omega
theorem bhw_snoc (m : Nat) (pre : List Nat) (x : Nat) : bhw m (pre ++ [x]) = IntKind.i64.wrap ((x : Int) + 1) := by
  unfold bhw; rw [List.getLast?_concat]
theorem range_snoc {m N x : Nat} {z : List Nat} (h : z ++ [x] <+: List.range' m (N - m)) : z = List.range' m z.length ∧ x = m + z.length ∧ z.length < N - m := by
  obtain ⟨t, ht⟩ := h
  have hl := congrArg List.length ht
  simp only [List.length_append, List.length_cons, List.length_nil, List.length_range'] at hl
  have e : List.range' m (N - m) = List.range' m (z.length + 1) ++ List.range' (m + (z.length + 1)) (N - m - (z.length + 1)) := by
    rw [List.range'_append_1]; congr 1; omega
  rw [e] at ht
  have h1 := List.append_inj ht (by simp)
  have h2 := h1.1
  rw [List.range'_concat] at h2
  have h3 := List.append_inj h2 (by simp)
  refine ⟨h3.1, ?_, by omega⟩
  have := h3.2
  simp at this
  omega
/-- How many begin so, where the first ones do, and the next one doesn't. -/
theorem bgN_upto {l : List Wrd} {s : ByteArray} (k : Nat) (hk : bgF l s + k ≤ l.length) (h1 : ∀ j ∈ List.range' (bgF l s) k, preK s (wget l j).1 = true) (h2 : ∀ y, l[bgF l s + k]? = some y → preK s y.1 = false) : bgN l s = k := by
  unfold bgN
  refine tw_len _ _ _ (fun j y hj hy => ?_) (by rw [List.length_drop]; omega) (fun y hy => ?_)
  · rw [List.getElem?_drop] at hy
    have := h1 (bgF l s + j) (by rw [List.mem_range'_1]; omega)
    rw [wget_at hy] at this
    exact this
  · rw [List.getElem?_drop] at hy
    exact h2 y hy

set_option maxRecDepth 100000 in
set_option maxHeartbeats 16000000 in
theorem xbegins_any (u : Value) (l : List Wrd) (s : ByteArray) (w : World) (hO : Okw w) (hu : WRuns w u l) (hl : l.length ≤ 2000000) (hz : szW l) :
    Calls Tryd.prog 39 #[u, .string s] w fun e w' => e = .returned (.tuple #[.int .i64 (wbgF l s), .int .i64 (wbgT l s), .int .i64 (wisS l)]) ∧ Below w.heap.size w w' := by
  have hba := bel_one w (.cells #[.string s] 9)
  have ce := xis_any u l (w.alloc (.cells #[.string s] 9)) (hO.below hba) (hu.below hba) hl hz
  by_cases h0 : wisS l = 0
  · rw [wbgF, wbgT, if_pos h0, if_pos h0, h0]
    rw [h0] at ce
    have hsr := (wisS_facts h0).2.1
    have cs := fun w hu => xplace_any u l s w hu hl hsr
    have hup := fun k hk h1 h2 => bgN_upto (l := l) (s := s) k hk h1 h2
    have hml := bgF_le l s
    obtain ⟨A, c, e⟩ := hu.slice
    subst e
    obtain ⟨n, hn⟩ : ∃ n, l.length = n := ⟨_, rfl⟩
    rw [hn] at hu ce hl hml hup ⊢
    simp only [hn] at cs
    obtain ⟨q, hq⟩ : ∃ z, bgN l s = z := ⟨_, rfl⟩
    obtain ⟨m, hm⟩ : ∃ z, bgF l s = z := ⟨_, rfl⟩
    rw [hq] at hup ⊢
    rw [hm] at hup hml ⊢
    simp only [hm] at cs
    obtain ⟨st, hst⟩ : ∃ z, isAt l m s = z := ⟨_, rfl⟩
    simp only [hst] at cs
    have CE := Lib.hid ce; have HU := Lib.hid (hu.below hba); have HN := Lib.hid hn; have CS := Lib.hid cs; have HUP := Lib.hid hup; have HBA := Lib.hid hba
    have bS0 := Boxed.new w 9 (.string s)
    have BS0 := Lib.hid bS0
    clear ce hu hn cs hup hq hm hst h0 hsr hz hO hba bS0
    refine (callsIn_wide (n := 6)).1 ?_
    refine callsIn_of_wp_marks Tryd.func39 rfl trivial ?_ rfl
    simp only [Tryd.ntmps39, List.size_toArray, List.length_cons, List.length_nil, Nat.reduceAdd, Nat.reduceSub, Array.replicate_succ, Array.replicate_zero, List.push_toArray, List.append_toArray, List.nil_append, List.cons_append]
    gi_wp2
    refine wpIn_wide.2 (wp_scope_straight ((wpIn_wide (n := 6)).1 ?_))
    gi_wp2_with (first
      | (refine ⟨trivial, ?_⟩; gi_at_call 43; refine (callsIn_wide.2 CE.out).mono ?_; rintro e w1 ⟨rfl, b1⟩; have BS1 := Lib.hid (Boxed.kept BS0.out (grown_none b1) (by simp)); have cS := BS1.out.cell; have U1 := Lib.hid (HU.out.below b1); have B1 := Lib.hid (HBA.out.trans (b1.mono HBA.out.size)); clear b1)
      | (refine ⟨trivial, ?_⟩; gi_at_call 63; refine (callsIn_wide.2 (CS.out _ U1.out)).mono ?_; rintro e w2 ⟨rfl, b2⟩; have BS2 := Lib.hid (Boxed.kept BS1.out (grown_none b2) (by simp)); have U2 := Lib.hid (U1.out.below b2); have B2 := Lib.hid (B1.out.trans (b2.mono B1.out.size)); clear b2 cS)
      | (refine ⟨trivial, ?_⟩; gi_at_call 64; refine (callsIn_wide.2 (from_any _ _ _ _ _)).mono ?_; rintro e w' ⟨rfl, rfl⟩)
      | (refine wpIn_label ?_))
    have bB := Boxed.new w2 3 (.int .i64 (m : Nat))
    have bL := Boxed.new (w2.alloc (.cells #[.int .i64 (m : Nat)] 3)) 22 (.slice A n c)
    have bA := Boxed.new ((w2.alloc (.cells #[.int .i64 (m : Nat)] 3)).alloc (.cells #[.slice A n c] 22)) 3 (.int .i64 (m : Nat))
    simp only [World.size_alloc] at bL bA ⊢
    have hB0 : Below w2.heap.size w2 (((w2.alloc (.cells #[.int .i64 (m : Nat)] 3)).alloc (.cells #[.slice A n c] 22)).alloc (.cells #[.int .i64 (m : Nat)] 3)) := (((Below.refl _ w2).alloc (Nat.le_refl _) _).alloc (by simp) _).alloc (by simp <;> omega) _
    have hsl : w.heap.size < w2.heap.size := BS2.out.lt
    have hS2 := BS2.out.cell
    refine wpIn_rangeFunc_ownH rfl (by decide) (gf := 93) (lb := #[.pointer (some ⟨w2.heap.size + 1 + 1, 0, none⟩), .pointer (some ⟨w2.heap.size + 1, 0, none⟩)]) rfl trivial (enters_of Tryd.func93 (by kernel_rfl) rfl)
      (from_stops 5 (by decide) (w2.heap.size + 1) (w2.heap.size + 1 + 1) w2.heap.size A n c m l HN.out hl hml w2 rfl U2.out _ (by simp <;> omega) hB0 (by simp <;> omega) (by simp <;> omega) ((bL.alloc _).cell) bA.cell) Keep2.trans (keep2_b (by simp <;> omega) (by simp <;> omega) (by simp <;> omega)) (Below.refl _ _) (fun _ => rfl)
      (fun (pre : List Nat) W => (((∀ j ∈ pre, preK s (wget l j).1 = true) ∧ Boxed W w2.heap.size 3 (.int .i64 (bhw m pre))) ∧ Below w2.heap.size w2 W) ∧ w2.heap.size + 3 ≤ W.heap.size)
      (fun cc (pre : List Nat) W => (∃ (z : List Nat) (x : Nat), (cc = .exit 0 ∧ pre = z ++ [x] ∧ (∀ j ∈ z, preK s (wget l j).1 = true) ∧ preK s (wget l x).1 = false) ∧ Boxed W w2.heap.size 3 (.int .i64 (bhw m z))) ∧ Below w2.heap.size w2 W)
      (OwnFrom.and (OwnFrom.and (OwnFrom.and (ownFrom_pure _ (fun pre : List Nat => ∀ j ∈ pre, preK s (wget l j).1 = true)) (Own.from (boxed_own _ _ _) _)) (ownFrom_below (Nat.le_refl _) (by simp <;> omega))) (fun _ _ _ _ h hg _ => Nat.le_trans h hg.size))
      (fun cc => OwnFrom.and (fun pre W W' row hx hg hr => by
        obtain ⟨z, x, h1, h2⟩ := hx
        exact ⟨z, x, h1, (Own.from (boxed_own w2.heap.size 3 (fun _ : List Nat => Value.int .i64 (bhw m z))) _) pre W W' row h2 hg hr⟩) (ownFrom_below (Nat.le_refl _) (by simp <;> omega)))
      ⟨⟨⟨by simp, (bB.alloc _).alloc _⟩, hB0⟩, by simp <;> omega⟩
      (fun x a' W => ∃ k, a' = { tmps := #[.slice A n c, .string s, undef, .pointer (some ⟨w.heap.size, 0, none⟩), .int .i64 0, .int .i64 0, .int .i64 0, .int .i64 0, .int .i64 m, .bool st, .pointer (some ⟨w2.heap.size, 0, none⟩), .int .i64 x, .pointer (some ⟨k, 0, none⟩), .slice A n c, .int .i64 0, .int .i64 0, .bool false, undef, .tuple #[.int .i64 m, .bool st], .slice A n c, .string s, .tuple #[.int .i64 m, .bool st], .int .i64 m, .bool st, .int .i64 m, .slice A n c, .int .i64 m, .func (.func 93) #[] #[.pointer (some ⟨w2.heap.size + 1 + 1, 0, none⟩), .pointer (some ⟨w2.heap.size + 1, 0, none⟩)], .int .i64 x, .agg #[.string (wget l x).1, .int .i64 (wget l x).2], undef, undef, undef, undef, undef, undef, undef, undef, undef], defers := [] } ∧ (w2.heap.size < k ∧ W.heap[k]? = some (.cells #[.string (wget l x).1, .int .i64 (wget l x).2] 72 (0, 0))))
      ?hAx ?assign ?body ?done ?stop
    case hAx =>
      rintro x a' _ W W' row ⟨k, h1, h2, h3⟩ hg hr
      exact ⟨k, h1, h2, (hg.block k (Array.getElem?_eq_some_iff.1 h3).1 (fun e => by
        obtain ⟨_, o, ho, hc⟩ := hr k e.symm
        rw [h3] at ho; cases ho; cases hc)).trans h3⟩
    case assign =>
      rintro lp pre x W K ⟨⟨⟨hp, hE⟩, hB⟩, hsz⟩ hK
      have hWs := hE.lt
      simp only [fromEnc]
      gi_wp2
      exact hK _ _ ⟨by simp, fun k o' _ h _ => (Below.heap_alloc _ _ _ (Array.getElem?_eq_some_iff.1 h).1).trans h⟩ (Keep2.of_below (bel_one _ _) hB.size (by omega) (by omega)) ⟨⟨⟨hp, hE.alloc _⟩, hB.trans ((bel_one _ _).mono hB.size)⟩, by simp <;> omega⟩ ⟨W.heap.size, rfl, hWs, World.alloc_heap_new _ _⟩
    case body =>
      rintro lp pre x a' W hl hr ⟨⟨⟨hp, hE⟩, hB⟩, hsz⟩ ⟨k, rfl, hk1, hk2⟩ hlt
      have y0 : W.cell? ⟨k, 0, none⟩ = some (.string (wget l x).1) := by simp [World.cell?, hk2]
      have hce := hE.cell
      have hfe := hE.frozen
      have hcs := (hB.cell (p := ⟨w.heap.size, 0, none⟩) hsl).trans hS2
      have cp := fun W => Tryd.strings_HasPrefix (wget l x).1 s W
      have epk : Lib.hasPrefix (wget l x).1.data.toList s.data.toList = preK s (wget l x).1 := rfl
      simp only [epk] at cp
      obtain ⟨pk, hpk⟩ : ∃ z, preK s (wget l x).1 = z := ⟨_, rfl⟩
      simp only [hpk] at cp
      obtain ⟨v, hv⟩ : ∃ v, IntKind.i64.wrap ((x : Int) + 1) = v := ⟨_, rfl⟩
      have HP := Lib.hid hp; have CP := Lib.hid cp; have HPK := Lib.hid hpk; have HB := Lib.hid hB; have HE := Lib.hid hE
      have HBH : Hid (bhw m (pre ++ [x]) = v) := Lib.hid (by rw [bhw_snoc]; exact hv)
      have hne : k ≠ w2.heap.size := by omega
      clear hp cp epk hpk hB hE hr hk2
      cases pk
      · gi_wp2_with (refine ⟨trivial, ?_⟩; gi_at_call 42; refine (CallsIn.inRound lp (callsIn_wide.2 (CP.out _))).mono ?_; rintro e w5 ⟨rfl, e5⟩; obtain rfl := e5.symm)
        exact ⟨KeepsFrom.refl _ _, ⟨pre, x, ⟨rfl, rfl, HP.out, HPK.out⟩, HE.out⟩, HB.out⟩
      · gi_wp2_with (refine ⟨trivial, ?_⟩; gi_at_call 42; refine (CallsIn.inRound lp (callsIn_wide.2 (CP.out _))).mono ?_; rintro e w5 ⟨rfl, e5⟩; obtain rfl := e5.symm)
        refine ⟨(KeepsOthers.setCell _ _ _).from _, ⟨(Below.refl _ _).setCell (p := ⟨w2.heap.size, 0, none⟩) (Nat.le_refl _) _, Below.heap_setCell _ _ _ _ (by simp), Below.heap_setCell _ _ _ _ (by simp <;> omega)⟩, ⟨⟨fun j hj => ?_, ?_⟩, HB.out.setCell (p := ⟨w2.heap.size, 0, none⟩) (Nat.le_refl _) _⟩, by rw [World.size_setCell]; exact hsz⟩
        · rcases List.mem_append.1 hj with h | h
          · exact HP.out j h
          · obtain rfl : j = x := (by simpa using h)
            exact HPK.out
        · rw [HBH.out]
          exact HE.out.set _
    case done =>
      rintro D ys W hD rfl ⟨⟨⟨hp, hE⟩, hB⟩, _⟩ hK
      have hce := hE.cell
      have hq := HUP.out (n - m) (by omega) hp (fun y hy => by rw [show m + (n - m) = n by omega, List.getElem?_eq_none (by rw [HN.out]; exact Nat.le_refl _)] at hy; cases hy)
      rw [bhw_range m (n - m) (by omega), ← hq] at hce
      clear hp hq
      gi_wp2
      refine wpIn_wide.2 ?_
      go_quiet (fail)
      obtain ⟨W5, hW5⟩ : ∃ W5, W5 = W.drewN nq := ⟨_, rfl⟩
      have hK5 : W5.heap[D]? = some (.deferred (some [])) := by rw [hW5]; exact hK
      have hB5 : Hid (Below w.heap.size w W5) := Lib.hid (by rw [hW5]; exact below_draws (B2.out.trans (hB.mono B2.out.size)) _)
      have hD5 : w.heap.size ≤ D := by simp at hD; omega
      have hc5 : W5.cell? ⟨w2.heap.size, 0, none⟩ = some (.int .i64 ((m : Int) + (q : Int))) := by rw [hW5]; exact hce
      rw [← hW5]
      clear hW5 hK hB hce
      gi_wp2
      rw [Exit.noGoto_ret]
      refine ⟨by simp, .inl ⟨_, _, rfl, run_takeDeferred hK5, ?_⟩⟩
      refine ⟨_, results_tmp3 rfl _ _ _, ?_⟩
      exact ⟨rfl, hB5.out.trans (belowK_b (w := w) (Nat.le_refl _) W5 D _ _ hD5 hK5 rfl rfl)⟩
    case stop =>
      rintro D cc pre W hD hp ⟨⟨z, x, ⟨rfl, rfl, hz, hx⟩, hE⟩, hB⟩ hK
      have hce := hE.cell
      obtain ⟨h1, h2, h3⟩ := range_snoc hp
      have hq := HUP.out z.length (by omega) (by rw [← h1]; exact hz) (fun y hy => by rw [← h2] at hy; rw [← wget_at hy]; exact hx)
      rw [h1, bhw_range m z.length (by omega), ← hq] at hce
      clear hp hz hx hE h1 h2 h3 hq
      gi_wp2
      refine wpIn_wide.2 ?_
      go_quiet (fail)
      obtain ⟨W5, hW5⟩ : ∃ W5, W5 = W.drewN nq := ⟨_, rfl⟩
      have hK5 : W5.heap[D]? = some (.deferred (some [])) := by rw [hW5]; exact hK
      have hB5 : Hid (Below w.heap.size w W5) := Lib.hid (by rw [hW5]; exact below_draws (B2.out.trans (hB.mono B2.out.size)) _)
      have hD5 : w.heap.size ≤ D := by simp at hD; omega
      have hc5 : W5.cell? ⟨w2.heap.size, 0, none⟩ = some (.int .i64 ((m : Int) + (q : Int))) := by rw [hW5]; exact hce
      rw [← hW5]
      clear hW5 hK hB hce
      gi_wp2
      rw [Exit.noGoto_ret]
      refine ⟨by simp, .inl ⟨_, _, rfl, run_takeDeferred hK5, ?_⟩⟩
      refine ⟨_, results_tmp3 rfl _ _ _, ?_⟩
      exact ⟨rfl, hB5.out.trans (belowK_b (w := w) (Nat.le_refl _) W5 D _ _ hD5 hK5 rfl rfl)⟩
  · have h0' : (wisS l == 0) = false := by simpa using h0
    rw [wbgF, wbgT, if_neg h0, if_neg h0]
    obtain ⟨er, her⟩ : ∃ z, wisS l = z := ⟨_, rfl⟩
    rw [her] at ce h0' ⊢
    have CE := Lib.hid ce; have HBA := Lib.hid hba
    clear ce hu hz h0 her hba hO
    go_enter Tryd.func39, Tryd.ntmps39
    go_wp2
    refine wp_scope_straight ?_
    go_wp2_with fail
    refine CE.out.mono ?_
    rintro e w1 ⟨rfl, b1⟩
    have B1 := Lib.hid (HBA.out.trans (b1.mono HBA.out.size)); clear b1
    go_wp2
    rw [Exit.noGoto_ret]
    go_ret3
    exact ⟨rfl, B1.out⟩
end Go.Proofs.YtljaibhhkjapmaaDoor

/- walk.word: the word at a place; walk.begins: which words begin with a text. -/
namespace Go.Proofs.YtljaibhhkjapmaaDoor
open Go.RowKit Go.Shelf Go.Lib
attribute [local go_sem] Oper.semAt_some
set_option linter.unusedSimpArgs false
set_option linter.unusedVariables false

set_option maxRecDepth 100000 in
set_option maxHeartbeats 4000000 in
theorem uword_any (w : World) (d : Nat) (L : List Wrd) (hn : wisS L = 0) (Q : List Rst) (hQ : staQ (rnW L) = Q) (h : DgAt w d Q L) (i : Nat) (x : Wrd) (hx : L[i]? = some x) :
    Calls Tryd.prog 60 #[.pointer (some ⟨d, 0, none⟩), .int .i64 (i : Int)] w fun e w' => e = .returned (.agg #[.string x.1, .int .i64 x.2]) ∧ Below w.heap.size w w' := by
  have c1 := fun w' (hb : Below w.heap.size w w') => word_in w' d L hn Q hQ (h.below hb) i x hx
  obtain ⟨x1, x2⟩ := x
  simp only at c1 ⊢
  have HB0 : Hid (∀ o : Obj, Below w.heap.size w (w.alloc o)) := Lib.hid (fun o => bel_one w o)
  have HX0 : Hid (Bx (w.alloc (.cells #[.string ⟨#[]⟩, .int .i64 0] 72)) w.heap.size 72 #[.string ⟨#[]⟩, .int .i64 0]) := Lib.hid (bx_new _ _ _)
  have C1 := Lib.hid c1
  clear c1 h hx hn hQ
  go_enter Tryd.func60, Tryd.ntmps60
  go_wp2_with fail
  refine (C1.out _ (HB0.out _)).mono ?_
  rintro e w2 ⟨rfl, b2⟩
  have hx2 := HX0.out.below b2
  have hb2 := (HB0.out _).trans (b2.mono (HB0.out _).size)
  have hlt := hx2.lt
  have hne : w.heap.size ≠ w2.heap.size := by omega
  obtain ⟨k0, k1⟩ := hx2.two
  have f0 := hx2.thaw 0; have f1 := hx2.thaw 1
  have HZ := Lib.hid ((bx_set2 hx2 (.string x1) (.int .i64 x2)).below (bel_one _ (.cells #[.string x1, .int .i64 x2] 72)))
  have hbz := bel_set2 hb2 (by have := hb2.size; omega) w.heap.size (.string x1) (.int .i64 x2) (Nat.le_refl _)
  have HBZ := Lib.hid (hbz.alloc hbz.size (.cells #[.string x1, .int .i64 x2] 72))
  clear hx2 hb2 b2 hbz C1 HX0
  go_wp2
  obtain ⟨q0, q1⟩ := HZ.out.two
  refine bodyPost_ret (v := .agg #[.string x1, .int .i64 x2]) ?_ rfl ⟨rfl, HBZ.out⟩
  simp [results, Tryd.f60, go_sem, q0, q1]
theorem run_wS (a : ByteArray) (b : Int) (w : World) : (Instr.field 72 (.agg #[.string a, .int .i64 b]) 0).run Tryd.prog w = .ok (.string a) w := by kernel_rfl

set_option maxRecDepth 100000 in
set_option maxHeartbeats 4000000 in
theorem ubeg1_any (w : World) (d : Nat) (L : List Wrd) (hn : wisS L = 0) (Q : List Rst) (hQ : staQ (rnW L) = Q) (h : DgAt w d Q L) (s : ByteArray) (Bd Bs : Nat) (hd : w.cell? ⟨Bd, 0, none⟩ = some (.pointer (some ⟨d, 0, none⟩))) (hs : w.cell? ⟨Bs, 0, none⟩ = some (.string s)) (i : Nat) (x : Wrd) (hx : L[i]? = some x) :
    Calls Tryd.prog 85 #[.int .i64 (i : Int), .pointer (some ⟨Bd, 0, none⟩), .pointer (some ⟨Bs, 0, none⟩)] w fun e w' => e = .returned (.bool (!ltK x.1 s)) ∧ Below w.heap.size w w' := by
  have c1 := fun w' (hb : Below w.heap.size w w') => uword_any w' d L hn Q hQ (h.below hb) i x hx
  obtain ⟨x1, x2⟩ := x
  simp only at c1 ⊢
  have hlk : ltK x1 s = Op.bytesLess x1.toList s.toList := rfl
  obtain ⟨r, hr⟩ : ∃ z, ltK x1 s = z := ⟨_, rfl⟩
  rw [hr] at hlk ⊢
  have C1 := Lib.hid c1
  have HLK := Lib.hid hlk
  clear c1 h hx hn hQ hr hlk
  have ef := fun w => run_wS x1 x2 w
  go_enter Tryd.func85, Tryd.ntmps85
  go_wp2
  go_region_held3 (fun wx => wx.cell? ⟨Bd, 0, none⟩ = some (.pointer (some ⟨d, 0, none⟩)) ∧ wx.cell? ⟨Bs, 0, none⟩ = some (.string s)) (first | go_keep) (first | (go_at_call 60; refine (C1.out _ ((Below.refl _ w).drew)).mono ?_; rintro e w4 ⟨rfl, hb4⟩; have hbw : Below w.heap.size w w4 := ((Below.refl _ w).drew).trans hb4; have q0 := cell_keep hbw hd; have q1 := cell_keep hbw hs; have HBW := Lib.hid hbw; clear hb4 hbw))
  all_goals go_wp2
  all_goals go_ret
  all_goals exact ⟨by rw [HLK.out]; rfl, HBW.out⟩

set_option maxRecDepth 100000 in
set_option maxHeartbeats 4000000 in
theorem ubeg2_any (w : World) (d : Nat) (L : List Wrd) (hn : wisS L = 0) (Q : List Rst) (hQ : staQ (rnW L) = Q) (h : DgAt w d Q L) (s : ByteArray) (Bd Bf Bs f : Nat) (hd : w.cell? ⟨Bd, 0, none⟩ = some (.pointer (some ⟨d, 0, none⟩))) (hf : w.cell? ⟨Bf, 0, none⟩ = some (.int .i64 (f : Int))) (hs : w.cell? ⟨Bs, 0, none⟩ = some (.string s)) (i : Nat) (x : Wrd) (hx : L[f + i]? = some x) (hfi : f + i ≤ 2000000) :
    Calls Tryd.prog 86 #[.int .i64 (i : Int), .pointer (some ⟨Bd, 0, none⟩), .pointer (some ⟨Bf, 0, none⟩), .pointer (some ⟨Bs, 0, none⟩)] w fun e w' => e = .returned (.bool (!preK s x.1)) ∧ Below w.heap.size w w' := by
  have c1 := fun w' (hb : Below w.heap.size w w') => uword_any w' d L hn Q hQ (h.below hb) (f + i) x hx
  obtain ⟨x1, x2⟩ := x
  simp only at c1 ⊢
  have cp := fun W => Tryd.strings_HasPrefix x1 s W
  have epk : Lib.hasPrefix x1.data.toList s.data.toList = preK s x1 := rfl
  simp only [epk] at cp
  obtain ⟨r, hr⟩ : ∃ z, preK s x1 = z := ⟨_, rfl⟩
  simp only [hr] at cp ⊢
  obtain ⟨g, hg⟩ : ∃ z, f + i = z := ⟨_, rfl⟩
  rw [hg] at hfi
  simp only [hg] at c1
  have wk : IntKind.i64.wrap ((f : Int) + (i : Int)) = (g : Int) := by rw [IntKind.wrap_i64]; omega
  have C1 := Lib.hid c1; have CP := Lib.hid cp
  clear c1 h hx hn hQ hr epk cp hg
  have ef := fun w => run_wS x1 x2 w
  go_enter Tryd.func86, Tryd.ntmps86
  go_wp2
  go_region_held3 (fun wx => wx.cell? ⟨Bd, 0, none⟩ = some (.pointer (some ⟨d, 0, none⟩)) ∧ wx.cell? ⟨Bf, 0, none⟩ = some (.int .i64 (f : Int)) ∧ wx.cell? ⟨Bs, 0, none⟩ = some (.string s)) (first | go_keep) (first | (go_at_call 60; refine (C1.out _ ((Below.refl _ w).drew)).mono ?_; rintro e w4 ⟨rfl, hb4⟩; have hbw : Below w.heap.size w w4 := ((Below.refl _ w).drew).trans hb4; have q0 := cell_keep hbw hd; have q1 := cell_keep hbw hf; have q2 := cell_keep hbw hs; have HBW := Lib.hid hbw; clear hb4 hbw) | (go_at_call 42; refine (CP.out _).mono ?_; rintro e w5 ⟨rfl, e5⟩; obtain rfl := e5.symm))
  all_goals go_wp2
  all_goals go_ret
  all_goals exact ⟨rfl, HBW.out⟩

set_option maxRecDepth 100000 in
set_option maxHeartbeats 8000000 in
theorem ubegins_any (w : World) (d : Nat) (L : List Wrd) (hn : wisS L = 0) (Q : List Rst) (hQ : staQ (rnW L) = Q) (h : DgAt w d Q L) (s : ByteArray) :
    Calls Tryd.prog 56 #[.pointer (some ⟨d, 0, none⟩), .string s] w fun e w' => e = .returned (.tuple #[.int .i64 (bgF L s : Int), .int .i64 ((bgF L s : Int) + (bgN L s : Int))]) ∧ Below w.heap.size w w' := by
  obtain ⟨_, hsr, hl⟩ := wisS_facts hn
  have hb1 := bgF_srt hsr s
  have hb2 := fun i v hv => beg_just hsr s i v hv
  have hle := bgN_le L s
  have wg : ∀ i, i < L.length → L[i]? = some (wget L i) := fun i hi => by
    rw [List.getElem?_eq_getElem hi, wget_at (List.getElem?_eq_getElem hi)]
  have hp1 : ∀ i, i < bgF L s → (!ltK (wget L i).1 s) = false := fun i hi => by rw [hb1.1 i _ hi (wg i (by omega))]; rfl
  have hp2 : ∀ i, bgF L s ≤ i → i < L.length → (!ltK (wget L i).1 s) = true := fun i hi h2 => by rw [hb1.2 i _ hi (wg i h2)]; rfl
  have hq1 : ∀ i, i < bgN L s → (!preK s (wget L (bgF L s + i)).1) = false := fun i hi => by
    rw [hb2 _ _ (wg (bgF L s + i) (by omega)), decide_eq_true (by omega), decide_eq_true (by omega)]; rfl
  have hq2 : ∀ i, bgN L s ≤ i → i < L.length - bgF L s → (!preK s (wget L (bgF L s + i)).1) = true := fun i hi h2 => by
    rw [hb2 _ _ (wg (bgF L s + i) (by omega)), decide_eq_true (by omega), decide_eq_false (by omega)]; rfl
  have cl := fun w' (hb : Below w.heap.size w w') => len_any w' d Q L (h.below hb)
  have c1 := fun w' (hb : Below w.heap.size w w') (Bd Bs i : Nat) hd hs (hi : i < L.length) => ubeg1_any w' d L hn Q hQ (h.below hb) s Bd Bs hd hs i _ (wg i hi)
  have c2 := fun w' (hb : Below w.heap.size w w') (Bd Bf Bs i : Nat) hd hf hs (hi : bgF L s + i < L.length) => ubeg2_any w' d L hn Q hQ (h.below hb) s Bd Bf Bs (bgF L s) hd hf hs i _ (wg _ hi) (by omega)
  obtain ⟨f, hf⟩ : ∃ z, bgF L s = z := ⟨_, rfl⟩
  obtain ⟨m, hm⟩ : ∃ z, bgN L s = z := ⟨_, rfl⟩
  obtain ⟨N, hN⟩ : ∃ z, L.length = z := ⟨_, rfl⟩
  simp only [hf, hm, hN] at hp1 hp2 hq1 hq2 cl c1 c2 hle hl ⊢
  clear hb1 hb2 wg hn hQ h hsr hf hm hN
  have eg1 : ∀ args w, (callFunc 85 args).run Tryd.prog w = .ok (.enter 85 args) w := enters_of Tryd.func85 (by kernel_rfl) rfl
  have eg2 : ∀ args w, (callFunc 86 args).run Tryd.prog w = .ok (.enter 86 args) w := enters_of Tryd.func86 (by kernel_rfl) rfl
  have b0 : Below w.heap.size w ((w.alloc (.cells #[.pointer (some ⟨d, 0, none⟩)] 25)).alloc (.cells #[.string s] 9)) := bel_two w _ _
  have x0 := (Boxed.new w 25 (.pointer (some ⟨d, 0, none⟩))).alloc (.cells #[.string s] 9)
  have x1 := Boxed.new (w.alloc (.cells #[.pointer (some ⟨d, 0, none⟩)] 25)) 9 (.string s)
  rw [World.size_alloc] at x1
  obtain ⟨w2, hw2⟩ : ∃ z, (w.alloc (.cells #[.pointer (some ⟨d, 0, none⟩)] 25)).alloc (.cells #[.string s] 9) = z := ⟨_, rfl⟩
  rw [hw2] at b0 x0 x1
  obtain ⟨B, hB⟩ : ∃ z, w.heap.size = z := ⟨_, rfl⟩
  have hBw : Below B w w2 := by rw [← hB]; exact b0
  rw [hB] at x0 x1
  have s1 : Calls Tryd.prog 84 #[.int .i64 (N : Int), .func (.func 85) #[] #[.pointer (some ⟨B, 0, none⟩), .pointer (some ⟨B + 1, 0, none⟩)]] w2 fun e w' => e = .returned (.int .i64 (f : Int)) ∧ Below w2.heap.size w2 w' :=
    usearch_any _ _ eg1 N f (fun i => !ltK (wget L i).1 s) w2 (by omega) (by omega) (fun w' i hb hi => c1 w' (b0.trans (hb.mono b0.size)) B (B + 1) i (cell_keep hb x0.cell) (cell_keep hb x1.cell) hi) hp1 hp2
  have s2 : ∀ w3 w4, Below w2.heap.size w2 w3 → w4 = w3.alloc (.cells #[.int .i64 (f : Int)] 3) → ∀ w5, Below w4.heap.size w4 w5 → Calls Tryd.prog 84 #[.int .i64 ((N - f : Nat) : Int), .func (.func 86) #[] #[.pointer (some ⟨B, 0, none⟩), .pointer (some ⟨w3.heap.size, 0, none⟩), .pointer (some ⟨B + 1, 0, none⟩)]] w5 fun e w' => e = .returned (.int .i64 (m : Int)) ∧ Below w5.heap.size w5 w' := fun w3 w4 hb3 e4 w5 hb5 => by
    have hb4 : Below w2.heap.size w2 w4 := by rw [e4]; exact hb3.alloc hb3.size _
    have hb25 : Below w2.heap.size w2 w5 := hb4.trans (hb5.mono hb4.size)
    have x2 : Boxed w4 w3.heap.size 3 (.int .i64 (f : Int)) := by rw [e4]; exact Boxed.new w3 _ _
    exact usearch_any _ _ eg2 (N - f) m (fun i => !preK s (wget L (f + i)).1) w5 (by omega) (by omega) (fun w' i hb hi => c2 w' (b0.trans ((hb25.trans (hb.mono hb25.size)).mono b0.size)) B w3.heap.size (B + 1) i (cell_keep (hb25.trans (hb.mono hb25.size)) x0.cell) (cell_keep (hb5.trans (hb.mono hb5.size)) x2.cell) (cell_keep (hb25.trans (hb.mono hb25.size)) x1.cell) (by omega)) hq1 hq2
  have CL := Lib.hid cl; have S1 := Lib.hid s1; have S2 := Lib.hid s2; have B0 := Lib.hid b0; have X0 := Lib.hid x0; have X1 := Lib.hid x1; have HW2 := Lib.hid hw2; have HB := Lib.hid hB; have HBW := Lib.hid hBw
  clear hp1 hp2 hq1 hq2 c1 c2 cl s1 s2 b0 x0 x1 hw2 eg1 eg2 hB hBw
  go_enter Tryd.func56, Tryd.ntmps56
  go_wp2_with fail
  rw [HW2.out]
  refine (CL.out _ B0.out).mono ?_
  rintro e w2' ⟨rfl, e2⟩
  obtain rfl := e2.symm
  rw [HB.out]
  have cd := X0.out.cell
  go_wp2_with fail
  refine S1.out.mono ?_
  rintro e w3 ⟨rfl, b3⟩
  have hb3 : Below w2.heap.size w2 (w3.alloc (.cells #[.int .i64 (f : Int)] 3)) := b3.alloc b3.size _
  have cd4 := cell_keep hb3 X0.out.cell
  have cf4 := (Boxed.new w3 3 (.int .i64 (f : Int))).cell
  have s2 := S2.out w3 _ b3 rfl
  have cl := CL.out
  obtain ⟨F, hF⟩ : ∃ z, w3.heap.size = z := ⟨_, rfl⟩
  obtain ⟨w4, hw4⟩ : ∃ z, w3.alloc (.cells #[.int .i64 (f : Int)] 3) = z := ⟨_, rfl⟩
  rw [hw4] at hb3 cd4 cf4 s2
  rw [hF] at cf4 s2
  have hb4 := B0.out.trans (hb3.mono B0.out.size)
  obtain ⟨kf, hkf⟩ : ∃ z, N - f = z := ⟨_, rfl⟩
  rw [hkf] at s2
  have S3 := Lib.hid s2; have B4 := Lib.hid hb4; have HW4 := Lib.hid hw4; have HF := Lib.hid hF
  have hsub : IntKind.i64.wrap ((N : Int) - (f : Int)) = (kf : Int) := by rw [IntKind.wrap_i64]; omega
  have hsub2 : wrap64 ((N : Int) - (f : Int)) = (kf : Int) := by unfold wrap64; omega
  clear b3 hb3 s2 hb4 hw4 hF S1 S2 cl hkf
  go_wp2
  rw [HW4.out, HF.out]
  have hadd : IntKind.i64.wrap ((f : Int) + (m : Int)) = (f : Int) + (m : Int) := by rw [IntKind.wrap_i64]; omega
  have hadd2 : wrap64 ((f : Int) + (m : Int)) = (f : Int) + (m : Int) := by unfold wrap64; omega
  have hS : Hid _ := S3
  go_region_held3 (fun wx => wx.cell? ⟨B, 0, none⟩ = some (.pointer (some ⟨d, 0, none⟩)) ∧ wx.cell? ⟨F, 0, none⟩ = some (.int .i64 (f : Int))) (first | go_keep) (first | (go_at_call 18; refine (CL.out _ (B4.out.trans (((Below.refl _ w4).drew).mono B4.out.size))).mono ?_; rintro e w5 ⟨rfl, e5⟩; obtain rfl := e5.symm) | (go_at_call 84; refine (hS.out _ ((Below.refl _ w4).drew)).mono ?_; rintro e w5 ⟨rfl, hb5⟩; have hbw : Below w4.heap.size w4 w5 := ((Below.refl _ w4).drew).trans hb5; have q0 := cell_keep hbw cd4; have q1 := cell_keep hbw cf4; have HBW5 := Lib.hid (B4.out.trans (hbw.mono B4.out.size)); clear hb5 hbw))
  all_goals go_wp2
  all_goals go_quiet (fail)
  all_goals go_wp2
  all_goals go_ret2
  all_goals exact ⟨rfl, below_draws HBW5.out _⟩
end Go.Proofs.YtljaibhhkjapmaaDoor

