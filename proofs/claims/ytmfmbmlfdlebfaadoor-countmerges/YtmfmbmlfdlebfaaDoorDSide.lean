/- count.sideBySide: two tables gone through side by side. -/
import Derived.Test.YtmfmbmlfdlebfaaDoorDMrgP
import Derived.Test.YtmfmbmlfdlebfaaDoorPk13
import Derived.Test.YtmfmbmlfdlebfaaDoorPk9
import Derived.BigRegion
import Derived.WalkMore
namespace Go.Proofs.YtmfmbmlfdlebfaaDoor
open Go.RowKit Go.Shelf
set_option linter.unusedSimpArgs false
set_option linter.unusedVariables false

/-- A slice's length. -/
def vlen : Value → Nat
  | .slice _ n _ => n
  | _ => 0
/-- What is behind the first block. -/
theorem runs_tail {w : World} {b o n c : Nat} {x : Blk} {l : List Blk} (h : BRuns w (.slice (some ⟨b, o, none⟩) n c) (x :: l)) (hn : l.length + 1 = n) : BRuns w (.slice (some ⟨b, o + 3, none⟩) (n - 1) (c - 1)) l ∧ (c = 1 → BRuns w (.slice (some ⟨b, o, none⟩) 0 0) l) := by
  have hc := h
  obtain ⟨A, c', e, h1, h2, _⟩ := hc
  obtain ⟨_, e2, rfl⟩ := Value.slice.inj e
  simp only [List.length_cons] at h1 e2
  constructor
  · by_cases h0 : 1 < n
    · have := h.back (by simpa using hn) 1 h0
      simpa using this
    · obtain rfl : l = [] := List.eq_nil_of_length_eq_zero (by omega)
      have e3 : n - 1 = 0 := by omega
      rw [e3]
      exact GRuns.none_ (by omega) (fun h => by cases h)
  · intro h0
    obtain rfl : l = [] := List.eq_nil_of_length_eq_zero (by omega)
    exact GRuns.none_ (by simp) (fun h => by cases h)

/-- What is known behind an append: the row is the call's own, all that is old is as it was. -/
structure SideK (w : World) (v : Value) (w' : World) (L : List Blk) : Prop where
  own : w'.ownsRow w.heap.size 43 3 v L.length (gCells blkCell L)
  nn : v ≠ .slice none 0 0
  bel : Below w.heap.size w w'
theorem SideK.of {w W W' : World} {u v : Value} {L : List Blk} {q : Nat} {x : Blk} {o : Obj} (hb : Below w.heap.size w W) (ho : W.ownsRow w.heap.size 43 3 u q (gCells blkCell L)) (hnn : u ≠ .slice none 0 0) (hq : L.length = q)
    (h1 : W'.ownsRow w.heap.size 43 3 v (q + [x].length) (gCells blkCell L ++ gCells blkCell [x])) (h2 : (W.drew.alloc o).grownBy W' u.ownBlock) (h3 : v.ownBlock = u.ownBlock ∨ v.ownBlock = some (W.drew.alloc o).heap.size) : SideK w v W' (L ++ [x]) := by
  refine ⟨by rw [List.length_append, gCells_append, hq]; exact h1, fun e => ?_, (hb.drew.alloc hb.size o).grown h2 (by simp; exact Nat.le_succ_of_le hb.size) (fun k hk => (ho.lt k hk).1)⟩
  rcases h3 with h | h
  · rw [e] at h
    rcases ho.2 with ⟨e', _⟩ | ⟨g, cap, cur, e', _⟩
    · exact hnn e'
    · rw [e'] at h; simp [Value.ownBlock] at h
  · rw [e] at h; simp [Value.ownBlock] at h

set_option maxRecDepth 100000 in
set_option maxHeartbeats 16000000 in
theorem side_any (u v : Value) (a b : List Blk) (w : World) (hu : BRuns w u a) (hv : BRuns w v b) (hla : a.length ≤ 4096) (hlb : b.length ≤ 4096) (hoa : okN a) (hob : okN b) :
    Calls Tryd.prog 38 #[u, v] w fun e w' => ∃ x, e = .returned x ∧ w'.ownsRow w.heap.size 43 3 x (mrg a b).length (gCells blkCell (mrg a b)) ∧ x ≠ .slice none 0 0 ∧ Below w.heap.size w w' := by
  obtain ⟨A, c, e⟩ := hu.slice
  subst e
  obtain ⟨B, d, e⟩ := hv.slice
  subst e
  have hz : Hid (∀ z ∈ a ++ b, True) := Lib.hid (fun _ _ => trivial)
  obtain ⟨M, hM⟩ : ∃ M, mrg a b = M := ⟨_, rfl⟩
  obtain ⟨n, hn⟩ : ∃ n, a.length = n := ⟨_, rfl⟩
  obtain ⟨m, hm⟩ : ∃ n, b.length = n := ⟨_, rfl⟩
  rw [hM]
  rw [hn] at hla hu ⊢
  rw [hm] at hlb hv ⊢
  have HM := Lib.hid hM; have HU := Lib.hid hu; have HV := Lib.hid hv; have HN := Lib.hid hn; have HMM := Lib.hid hm; have HOA := Lib.hid hoa; have HOB := Lib.hid hob
  clear hM hu hv hn hm hoa hob
  have hsum : IntKind.i64.wrap ((n : Int) + (m : Int)) = ((n + m : Nat) : Int) := by rw [IntKind.wrap_i64]; omega
  obtain ⟨wm, hmk, hown0, hgr0⟩ := make_blks w (n + m) (by omega)
  have hb0 : Below w.heap.size w wm := (Below.refl _ _).grown hgr0 (Nat.le_refl _) (fun k hk => by cases hk)
  have hmk' : (Instr.makeSlice 22 (.int .i64 0) (.int .i64 ((n : Int) + (m : Int)))).run Tryd.prog w = .ok (.slice (some ⟨w.heap.size, 0, none⟩) 0 (n + m)) wm := by rw [← hmk]; simp
  have HOW := Lib.hid hown0; have BM := Lib.hid hb0
  clear hown0 hb0 hgr0 hmk
  have CL := Lib.hid less_any
  go_enter Tryd.func38, Tryd.ntmps38
  go_wp2
  go_step3
  go_wp2
  go_step3
  go_wp2
  clear hmk' hsum
  go_loopw [0, 1, 5] (fun s0 s1 s5 wr => ∃ (a' b' L : List Blk), Hid (BRuns w s0 a') ∧ Hid (BRuns w s1 b') ∧ Hid (wr.ownsRow w.heap.size 43 3 s5 L.length (gCells blkCell L)) ∧ Hid (s5 ≠ .slice none 0 0) ∧ Hid (L ++ mrg a' b' = M) ∧ L.length + a'.length + b'.length ≤ 8192 ∧ Hid (okN a') ∧ Hid (okN b') ∧ Hid (Below w.heap.size w wr)) (fun s0 s1 _ _ => vlen s0 + vlen s1)
  case atStart => exact ⟨a, b, [], HU, HV, HOW, Lib.hid (by simp), Lib.hid HM.out, by rw [HN.out, HMM.out]; simp; omega, HOA, HOB, BM⟩
  case round =>
    obtain ⟨a', b', L, RA, RB, HO, HNN, HL, hlen, OA, OB, BW⟩ := hrel
    clear HU HV HM HOW BM HN HMM HOA HOB
    obtain ⟨q, hq⟩ : ∃ q, L.length = q := ⟨_, rfl⟩
    rw [hq] at HO hlen
    have HQ := Lib.hid hq; clear hq
    obtain ⟨A0, c0, e⟩ := RA.out.slice
    subst e
    obtain ⟨B0, d0, e⟩ := RB.out.slice
    subst e
    obtain ⟨na, hna⟩ : ∃ z, a'.length = z := ⟨_, rfl⟩
    obtain ⟨nb, hnb⟩ : ∃ z, b'.length = z := ⟨_, rfl⟩
    rw [hna] at RA hlen ⊢
    rw [hnb] at RB hlen ⊢
    have HNA := Lib.hid hna; have HNB := Lib.hid hnb; clear hna hnb
    by_cases hex : na = 0 ∨ nb = 0
    · have RA1 := RA.out.below BW.out
      obtain ⟨v4, w4, hrun4, hown4, hg4, hat4⟩ := append_many (P := Tryd.prog) blk_ln blk_one info_blk rfl (by decide) (by decide) Tryd.underlying22 wr w.heap.size _ q _ HO.out _ a' RA1 BW.out.size (by rw [HNA.out]; omega)
      have hb4 : Below w.heap.size w w4 := BW.out.grown hg4 BW.out.size (fun k hk => (HO.out.lt k hk).1)
      obtain ⟨v5, w5, hrun5, hown5, hg5, hat5⟩ := append_many (P := Tryd.prog) blk_ln blk_one info_blk rfl (by decide) (by decide) Tryd.underlying22 w4 w.heap.size _ _ _ hown4 _ b' (RB.out.below hb4) hb4.size (by rw [HNA.out, HNB.out]; omega)
      have hb5 : Below w.heap.size w w5 := hb4.grown hg5 hb4.size (fun k hk => (hown4.lt k hk).1)
      have hfin : L ++ a' ++ b' = M := by
        rw [← HL.out]
        rcases hex with h | h
        · obtain rfl : a' = [] := List.eq_nil_of_length_eq_zero (by rw [HNA.out]; exact h)
          rw [mrg_nil]; simp
        · obtain rfl : b' = [] := List.eq_nil_of_length_eq_zero (by rw [HNB.out]; exact h)
          rw [mrg_none]; simp
      have hnn4 : v4.ownBlock ≠ none := by
        have h0 : u5.ownBlock ≠ none := by
          rcases HO.out.2 with ⟨e', _⟩ | ⟨g, cap, cur, e', _⟩
          · exact absurd e' HNN.out
          · rw [e']; simp [Value.ownBlock]
        rcases hat4 with h | h
        · rw [h]; exact h0
        · rw [h]; simp
      have hnn5 : v5 ≠ .slice none 0 0 := fun e => by
        rcases hat5 with h | h
        · rw [e] at h; exact hnn4 h.symm
        · rw [e] at h; simp [Value.ownBlock] at h
      have hown : w5.ownsRow w.heap.size 43 3 v5 M.length (gCells blkCell M) := by
        rw [← hfin, gCells_append, gCells_append, List.length_append, List.length_append, HQ.out]
        exact hown5
      have H4 := Lib.hid hrun4; have H5 := Lib.hid hrun5
      have HE : Hid (w5.ownsRow w.heap.size 43 3 v5 M.length (gCells blkCell M) ∧ v5 ≠ .slice none 0 0 ∧ Below w.heap.size w w5) := Lib.hid ⟨hown, hnn5, hb5⟩
      have hcs : na = 0 ∨ (0 < na ∧ nb = 0) := by omega
      clear RA1 hrun4 hown4 hg4 hat4 hb4 hrun5 hown5 hg5 hat5 hb5 hfin hnn4 hnn5 hown hex
      rcases hcs with h0 | ⟨h0, h1⟩
      · subst h0
        go_wp2_with (first
          | (at_builtin; refine wpList_append_run (.tmp 80) (.tmp 81) 22 _ _ _ _ H4.out rfl rfl rfl rfl ?_)
          | (at_builtin; refine wpList_append_run (.tmp 82) (.tmp 83) 22 _ _ _ _ H5.out rfl rfl rfl rfl ?_)
          | go_in)
        try rw [Exit.noGoto_ret]
        go_ret
        exact ⟨_, rfl, HE.out⟩
      · subst h1
        have h0' : ¬ na = 0 := by omega
        go_wp2_with (first
          | (at_builtin; refine wpList_append_run (.tmp 80) (.tmp 81) 22 _ _ _ _ H4.out rfl rfl rfl rfl ?_)
          | (at_builtin; refine wpList_append_run (.tmp 82) (.tmp 83) 22 _ _ _ _ H5.out rfl rfl rfl rfl ?_)
          | go_in)
        try rw [Exit.noGoto_ret]
        go_ret
        exact ⟨_, rfl, HE.out⟩
    · obtain ⟨⟨x1, x2, x3⟩, ta, rfl⟩ : ∃ x ta, a' = x :: ta := by
        cases a' with
        | nil => exact absurd HNA.out (by simp; omega)
        | cons x ta => exact ⟨x, ta, rfl⟩
      obtain ⟨⟨y1, y2, y3⟩, tb, rfl⟩ : ∃ x ta, b' = x :: ta := by
        cases b' with
        | nil => exact absurd HNB.out (by simp; omega)
        | cons x ta => exact ⟨x, ta, rfl⟩
      have hna := HNA.out; have hnb := HNB.out
      simp only [List.length_cons] at hna hnb
      obtain ⟨ba, oa, rfl, _, _⟩ := RA.out.cells HNA.out (by omega)
      obtain ⟨bb, ob, rfl, _, _⟩ := RB.out.cells HNB.out (by omega)
      obtain ⟨_, _, e1, hca⟩ := (RA.out.below BW.out).cells HNA.out (by omega)
      obtain ⟨_, _, e2, hcb⟩ := (RB.out.below BW.out).cells HNB.out (by omega)
      have e1 := Option.some.inj e1; have e2 := Option.some.inj e2
      simp only [Addr.mk.injEq] at e1 e2
      obtain ⟨rfl, rfl, _⟩ := e1
      obtain ⟨rfl, rfl, _⟩ := e2
      obtain ⟨hla', hca⟩ := hca
      obtain ⟨hlb', hcb⟩ := hcb
      obtain ⟨g0, g1, g2⟩ := blk_cells (j := 0) hca rfl
      obtain ⟨g3, g4, g5⟩ := blk_cells (j := 0) hcb rfl
      simp only [Nat.zero_mul, Nat.add_zero] at g0 g1 g2 g3 g4 g5
      have TA := Lib.hid (runs_tail RA.out hna); have TB := Lib.hid (runs_tail RB.out hnb)
      obtain ⟨hca1, hca2⟩ : na ≤ c0 ∧ c0 ≤ maxLen := by
        obtain ⟨_, _, e, q1, q2, _⟩ := RA.out
        obtain ⟨_, e2, rfl⟩ := Value.slice.inj e
        exact ⟨by rw [e2]; exact q1, q2.1⟩
      obtain ⟨hcb1, hcb2⟩ : nb ≤ d0 ∧ d0 ≤ maxLen := by
        obtain ⟨_, _, e, q1, q2, _⟩ := RB.out
        obtain ⟨_, e2, rfl⟩ := Value.slice.inj e
        exact ⟨by rw [e2]; exact q1, q2.1⟩
      unfold maxLen at hca2 hcb2
      have nx := OA.out (x1, x2, x3) (by simp); have ny := OB.out (y1, y2, y3) (by simp)
      simp only at nx ny
      have OA' : Hid (okN ta) := Lib.hid (fun z hz => OA.out z (by simp [hz]))
      have OB' : Hid (okN tb) := Lib.hid (fun z hz => OB.out z (by simp [hz]))
      have c5 := fun w => CL.out x1 x2 y1 y2 x3 y3 w
      have c6 := fun w => CL.out y1 y2 x1 x2 y3 x3 w
      have hl1 : lessB (x1, x2, x3) (y1, y2, y3) = true → (x1, x2, x3) :: mrg ta ((y1, y2, y3) :: tb) = mrg ((x1, x2, x3) :: ta) ((y1, y2, y3) :: tb) := fun h => (mrg_less ta tb h).symm
      have hl2 : lessB (x1, x2, x3) (y1, y2, y3) = false → lessB (y1, y2, y3) (x1, x2, x3) = true → (y1, y2, y3) :: mrg ((x1, x2, x3) :: ta) tb = mrg ((x1, x2, x3) :: ta) ((y1, y2, y3) :: tb) := fun h h' => (mrg_more ta tb h h').symm
      have hl3 : lessB (x1, x2, x3) (y1, y2, y3) = false → lessB (y1, y2, y3) (x1, x2, x3) = false → (x1, x2, x3 + y3) :: mrg ta tb = mrg ((x1, x2, x3) :: ta) ((y1, y2, y3) :: tb) := fun h h' => (mrg_same ta tb h h').symm
      have hfn : Hid (L ++ mrg ((x1, x2, x3) :: ta) ((y1, y2, y3) :: tb) = M) := HL
      obtain ⟨l1, hl1'⟩ : ∃ z, lessB (x1, x2, x3) (y1, y2, y3) = z := ⟨_, rfl⟩
      obtain ⟨l2, hl2'⟩ : ∃ z, lessB (y1, y2, y3) (x1, x2, x3) = z := ⟨_, rfl⟩
      simp only [hl1'] at c5 hl1 hl2 hl3
      simp only [hl2'] at c6 hl2 hl3
      have C5 := Lib.hid c5; have C6 := Lib.hid c6; have HL1 := Lib.hid hl1; have HL2 := Lib.hid hl2; have HL3 := Lib.hid hl3
      clear c5 c6 hl1 hl2 hl3 hl1' hl2' hca hcb
      have h0a : ¬ na = 0 := by omega
      have h0b : ¬ nb = 0 := by omega
      have h0c : ((na : Int) == 0) = false := by simp; omega
      have h0d : ((nb : Int) == 0) = false := by simp; omega
      have p1a : (0 : Int) < (na : Int) := by omega
      have p1b : (0 : Int) < (nb : Int) := by omega
      have p2a : 0 < na := by omega
      have p2b : 0 < nb := by omega
      have KD : Hid (KTwo wr ba oa bb ob (x1, x2, x3) (y1, y2, y3) wr.drew) := Lib.hid ⟨g0, g1, g2, g3, g4, g5, hla', hlb', (Below.refl _ _).drew⟩
      go_wp2
      go_region_held3 (fun w' => w'.cell? ⟨ba, oa, none⟩ = some (.string x1) ∧ w'.cell? ⟨ba, oa + 1, none⟩ = some (.string x2) ∧ w'.cell? ⟨ba, oa + 2, none⟩ = some (.int .i64 x3) ∧ w'.cell? ⟨bb, ob, none⟩ = some (.string y1) ∧ w'.cell? ⟨bb, ob + 1, none⟩ = some (.string y2) ∧ w'.cell? ⟨bb, ob + 2, none⟩ = some (.int .i64 y3) ∧ Hid (KTwo wr ba oa bb ob (x1, x2, x3) (y1, y2, y3) w'))
        (first | exact ⟨g0, g1, g2, g3, g4, g5, KD⟩ | exact ⟨HKn.out.a0, HKn.out.a1, HKn.out.a2, HKn.out.b0, HKn.out.b1, HKn.out.b2, HKn⟩ | go_keep)
        (first
          | (go_at_call 36; refine (C5.out _).mono ?_; rintro e w4 ⟨rfl, hb4⟩; have HKn := Lib.hid ((by assumption : Hid (KTwo wr ba oa bb ob (x1, x2, x3) (y1, y2, y3) _)).out.step hb4); clear hb4))
      rename_i hHeld
      clear hHeld g0 g1 g2 g3 g4 g5 KD
      cases l1
      · have f0 := HKn.out.a0; have f1 := HKn.out.a1; have f2 := HKn.out.a2; have f3 := HKn.out.b0; have f4 := HKn.out.b1; have f5 := HKn.out.b2
        simp only at f0 f1 f2 f3 f4 f5
        have KD : Hid (KTwo wr ba oa bb ob (x1, x2, x3) (y1, y2, y3) w4.drew) := Lib.hid (HKn.out.step (Below.refl _ _).drew)
        clear HKn
        go_wp2
        go_region_held3 (fun w' => w'.cell? ⟨ba, oa, none⟩ = some (.string x1) ∧ w'.cell? ⟨ba, oa + 1, none⟩ = some (.string x2) ∧ w'.cell? ⟨ba, oa + 2, none⟩ = some (.int .i64 x3) ∧ w'.cell? ⟨bb, ob, none⟩ = some (.string y1) ∧ w'.cell? ⟨bb, ob + 1, none⟩ = some (.string y2) ∧ w'.cell? ⟨bb, ob + 2, none⟩ = some (.int .i64 y3) ∧ Hid (KTwo wr ba oa bb ob (x1, x2, x3) (y1, y2, y3) w'))
          (first | exact ⟨f0, f1, f2, f3, f4, f5, KD⟩ | exact ⟨HKm.out.a0, HKm.out.a1, HKm.out.a2, HKm.out.b0, HKm.out.b1, HKm.out.b2, HKm⟩ | go_keep)
          (first
            | (go_at_call 36; refine (C6.out _).mono ?_; rintro e w5 ⟨rfl, hb4⟩; have HKm := Lib.hid ((by assumption : Hid (KTwo wr ba oa bb ob (x1, x2, x3) (y1, y2, y3) _)).out.step hb4); clear hb4))
        rename_i hHeld
        clear hHeld f0 f1 f2 f3 f4 f5 KD
        have f0 := HKm.out.a0; have f1 := HKm.out.a1; have f2 := HKm.out.a2; have f3 := HKm.out.b0; have f4 := HKm.out.b1; have f5 := HKm.out.b2
        simp only at f0 f1 f2 f3 f4 f5
        have O4 := Lib.hid (own_below HO.out HKm.out.bel)
        have B4 : Hid (Below w.heap.size w w5) := Lib.hid (BW.out.trans (HKm.out.bel.mono BW.out.size))
        have SD : w.heap.size ≤ w5.heap.size := B4.out.size
        have hmix : Tryd.prog.follows .mixedOrders = true := by kernel_rfl
        have q1 : (1 : Int) ≤ (na : Int) := by omega
        have q2 : (na : Int) ≤ (c0 : Int) := by omega
        have q3 : (1 : Int) ≤ (c0 : Int) := by omega
        have q4 : (1 : Int) ≤ (nb : Int) := by omega
        have q5 : (nb : Int) ≤ (d0 : Int) := by omega
        have q6 : (1 : Int) ≤ (d0 : Int) := by omega
        cases l2
        · have hM2 : Hid (L ++ [(x1, x2, x3 + y3)] ++ mrg ta tb = M) := Lib.hid (by rw [← hfn.out, ← HL3.out (by first | rfl | trivial) (by first | rfl | trivial)]; simp)
          clear HL1 HL2 HL3 hfn HL C5 C6
          have hwr3 : IntKind.i64.wrap (x3 + y3) = x3 + y3 := by rw [IntKind.wrap_i64]; omega
          have hz5 := blw_1 w5 (.cells #[.string { data := #[] }, .string { data := #[] }, .int .i64 0] 43)
          have e0 := (hz5.cell (p := ⟨ba, oa, none⟩) HKm.out.lt).trans f0
          have e1 := (hz5.cell (p := ⟨ba, oa + 1, none⟩) HKm.out.lt).trans f1
          have e2 := (hz5.cell (p := ⟨ba, oa + 2, none⟩) HKm.out.lt).trans f2
          have e5 := (hz5.cell (p := ⟨bb, ob + 2, none⟩) HKm.out.lt').trans f5
          clear hz5
          go_wp2
          go_region
          obtain ⟨w7, hw7⟩ : ∃ w7, w7 = (w5.alloc (.cells #[.string x1, .string x2, .int .i64 (x3 + y3)] 43)).drew := ⟨_, rfl⟩
          rw [← hw7]
          have hxr : w7.heap[w5.heap.size]? = some (.cells #[.string x1, .string x2, .int .i64 (x3 + y3)] 43 (0, 0)) := by rw [hw7]; exact heap_alloc_new w5 _
          have h57 : Below w5.heap.size w5 w7 := by rw [hw7]; exact (blw_1 w5 _).drew
          have O7 := Lib.hid (own_below O4.out h57)
          have B7 : Hid (Below w.heap.size w w7) := Lib.hid (B4.out.trans (h57.mono B4.out.size))
          have SD7 : w.heap.size ≤ w7.heap.size := B7.out.size
          obtain ⟨bx, hbx⟩ : ∃ z, w5.heap.size = z := ⟨_, rfl⟩
          rw [hbx] at hxr ⊢
          obtain ⟨z0, z1, z2, _⟩ := cells_at hxr
          clear hxr h57 hbx hw7 O4 B4 f0 f1 f2 f3 f4 f5 e0 e1 e2 e5 HKm hwr3
          by_cases hc1 : c0 = 1
          · obtain rfl : na = 1 := by omega
            subst hc1
            by_cases hc2 : d0 = 1
            · obtain rfl : nb = 1 := by omega
              subst hc2
              go_wp2
              go_region_law (first
                | (refine step_append_blks rfl (.tmp 31) (.tmp 33) w.heap.size q (gCells blkCell L) [(x1, x2, x3 + y3)] (by exact O7.out.alloc _) (by exact blk_litR _ (x1, x2, x3 + y3)) rfl rfl (by go_simp) (by go_simp) (by simp; omega) (by show (q + 1) * 40 ≤ 140737488355328; omega) ?_; intro v6 w6 h6 k6 j6; have E6 : Hid (SideK w v6 w6 (L ++ [(x1, x2, x3 + y3)])) := Lib.hid (SideK.of B7.out O7.out HNN.out HQ.out h6 k6 j6); clear h6 k6 j6))
              simp only [Act.put, List.getElem_toArray, List.getElem_cons_zero, List.getElem_cons_succ, List.setIfInBounds_toArray, List.set_cons_succ, List.set_cons_zero]
              go_wp2
              exact ⟨⟨ta, tb, L ++ [(x1, x2, x3 + y3)], Lib.hid (TA.out.2 (by first | rfl | trivial)), Lib.hid (TB.out.2 (by first | rfl | trivial)), Lib.hid E6.out.own, Lib.hid E6.out.nn, hM2, by simp only [List.length_append, List.length_cons, List.length_nil]; have := HQ.out; omega, OA', OB', Lib.hid E6.out.bel⟩, by simp only [vlen]; omega⟩
            · go_wp2
              go_region_law (first
                | (refine step_append_blks rfl (.tmp 31) (.tmp 33) w.heap.size q (gCells blkCell L) [(x1, x2, x3 + y3)] (by exact O7.out.alloc _) (by exact blk_litR _ (x1, x2, x3 + y3)) rfl rfl (by go_simp) (by go_simp) (by simp; omega) (by show (q + 1) * 40 ≤ 140737488355328; omega) ?_; intro v6 w6 h6 k6 j6; have E6 : Hid (SideK w v6 w6 (L ++ [(x1, x2, x3 + y3)])) := Lib.hid (SideK.of B7.out O7.out HNN.out HQ.out h6 k6 j6); clear h6 k6 j6))
              simp only [Act.put, List.getElem_toArray, List.getElem_cons_zero, List.getElem_cons_succ, List.setIfInBounds_toArray, List.set_cons_succ, List.set_cons_zero]
              go_wp2
              exact ⟨⟨ta, tb, L ++ [(x1, x2, x3 + y3)], Lib.hid (TA.out.2 (by first | rfl | trivial)), Lib.hid (TB.out.1), Lib.hid E6.out.own, Lib.hid E6.out.nn, hM2, by simp only [List.length_append, List.length_cons, List.length_nil]; have := HQ.out; omega, OA', OB', Lib.hid E6.out.bel⟩, by simp only [vlen]; omega⟩
          · by_cases hc2 : d0 = 1
            · obtain rfl : nb = 1 := by omega
              subst hc2
              go_wp2
              go_region_law (first
                | (refine step_append_blks rfl (.tmp 31) (.tmp 33) w.heap.size q (gCells blkCell L) [(x1, x2, x3 + y3)] (by exact O7.out.alloc _) (by exact blk_litR _ (x1, x2, x3 + y3)) rfl rfl (by go_simp) (by go_simp) (by simp; omega) (by show (q + 1) * 40 ≤ 140737488355328; omega) ?_; intro v6 w6 h6 k6 j6; have E6 : Hid (SideK w v6 w6 (L ++ [(x1, x2, x3 + y3)])) := Lib.hid (SideK.of B7.out O7.out HNN.out HQ.out h6 k6 j6); clear h6 k6 j6))
              simp only [Act.put, List.getElem_toArray, List.getElem_cons_zero, List.getElem_cons_succ, List.setIfInBounds_toArray, List.set_cons_succ, List.set_cons_zero]
              go_wp2
              exact ⟨⟨ta, tb, L ++ [(x1, x2, x3 + y3)], Lib.hid (TA.out.1), Lib.hid (TB.out.2 (by first | rfl | trivial)), Lib.hid E6.out.own, Lib.hid E6.out.nn, hM2, by simp only [List.length_append, List.length_cons, List.length_nil]; have := HQ.out; omega, OA', OB', Lib.hid E6.out.bel⟩, by simp only [vlen]; omega⟩
            · go_wp2
              go_region_law (first
                | (refine step_append_blks rfl (.tmp 31) (.tmp 33) w.heap.size q (gCells blkCell L) [(x1, x2, x3 + y3)] (by exact O7.out.alloc _) (by exact blk_litR _ (x1, x2, x3 + y3)) rfl rfl (by go_simp) (by go_simp) (by simp; omega) (by show (q + 1) * 40 ≤ 140737488355328; omega) ?_; intro v6 w6 h6 k6 j6; have E6 : Hid (SideK w v6 w6 (L ++ [(x1, x2, x3 + y3)])) := Lib.hid (SideK.of B7.out O7.out HNN.out HQ.out h6 k6 j6); clear h6 k6 j6))
              simp only [Act.put, List.getElem_toArray, List.getElem_cons_zero, List.getElem_cons_succ, List.setIfInBounds_toArray, List.set_cons_succ, List.set_cons_zero]
              go_wp2
              exact ⟨⟨ta, tb, L ++ [(x1, x2, x3 + y3)], Lib.hid (TA.out.1), Lib.hid (TB.out.1), Lib.hid E6.out.own, Lib.hid E6.out.nn, hM2, by simp only [List.length_append, List.length_cons, List.length_nil]; have := HQ.out; omega, OA', OB', Lib.hid E6.out.bel⟩, by simp only [vlen]; omega⟩
        · have hM2 : Hid (L ++ [(y1, y2, y3)] ++ mrg ((x1, x2, x3) :: ta) tb = M) := Lib.hid (by rw [← hfn.out, ← HL2.out (by first | rfl | trivial) (by first | rfl | trivial)]; simp)
          clear HL1 HL2 HL3 hfn HL C5 C6 f0 f1 f2
          by_cases hc1 : d0 = 1
          · obtain rfl : nb = 1 := by omega
            subst hc1
            go_wp2
            go_region_law (first
              | (refine step_append_blks rfl (.tmp 72) (.tmp 76) w.heap.size q (gCells blkCell L) [(y1, y2, y3)] (by exact O4.out.alloc _) (by exact blk_litR _ (y1, y2, y3)) rfl rfl (by go_simp) (by go_simp) (by simp; omega) (by show (q + 1) * 40 ≤ 140737488355328; omega) ?_; intro v6 w6 h6 k6 j6; have E6 : Hid (SideK w v6 w6 (L ++ [(y1, y2, y3)])) := Lib.hid (SideK.of B4.out O4.out HNN.out HQ.out h6 k6 j6); clear h6 k6 j6))
            simp only [Act.put, List.getElem_toArray, List.getElem_cons_zero, List.getElem_cons_succ, List.setIfInBounds_toArray, List.set_cons_succ, List.set_cons_zero]
            go_wp2
            exact ⟨⟨(x1, x2, x3) :: ta, tb, L ++ [(y1, y2, y3)], RA, Lib.hid (TB.out.2 (by first | rfl | trivial)), Lib.hid E6.out.own, Lib.hid E6.out.nn, hM2, by simp only [List.length_append, List.length_cons, List.length_nil]; have := HQ.out; omega, OA, OB', Lib.hid E6.out.bel⟩, by simp only [vlen]; omega⟩
          · go_wp2
            go_region_law (first
              | (refine step_append_blks rfl (.tmp 72) (.tmp 76) w.heap.size q (gCells blkCell L) [(y1, y2, y3)] (by exact O4.out.alloc _) (by exact blk_litR _ (y1, y2, y3)) rfl rfl (by go_simp) (by go_simp) (by simp; omega) (by show (q + 1) * 40 ≤ 140737488355328; omega) ?_; intro v6 w6 h6 k6 j6; have E6 : Hid (SideK w v6 w6 (L ++ [(y1, y2, y3)])) := Lib.hid (SideK.of B4.out O4.out HNN.out HQ.out h6 k6 j6); clear h6 k6 j6))
            simp only [Act.put, List.getElem_toArray, List.getElem_cons_zero, List.getElem_cons_succ, List.setIfInBounds_toArray, List.set_cons_succ, List.set_cons_zero]
            go_wp2
            exact ⟨⟨(x1, x2, x3) :: ta, tb, L ++ [(y1, y2, y3)], RA, Lib.hid (TB.out.1), Lib.hid E6.out.own, Lib.hid E6.out.nn, hM2, by simp only [List.length_append, List.length_cons, List.length_nil]; have := HQ.out; omega, OA, OB', Lib.hid E6.out.bel⟩, by simp only [vlen]; omega⟩
      · have f0 := HKn.out.a0; have f1 := HKn.out.a1; have f2 := HKn.out.a2
        simp only at f0 f1 f2
        have O4 := Lib.hid (own_below HO.out HKn.out.bel)
        have B4 : Hid (Below w.heap.size w w4) := Lib.hid (BW.out.trans (HKn.out.bel.mono BW.out.size))
        have SD : w.heap.size ≤ w4.heap.size := B4.out.size
        have hmix : Tryd.prog.follows .mixedOrders = true := by kernel_rfl
        have q1 : (1 : Int) ≤ (na : Int) := by omega
        have q2 : (na : Int) ≤ (c0 : Int) := by omega
        have q3 : (1 : Int) ≤ (c0 : Int) := by omega
        have hM2 : Hid (L ++ [(x1, x2, x3)] ++ mrg ta ((y1, y2, y3) :: tb) = M) := Lib.hid (by rw [← hfn.out, ← HL1.out (by first | rfl | trivial)]; simp)
        clear HL1 HL2 HL3 hfn HL C5 C6
        by_cases hc1 : c0 = 1
        · obtain rfl : na = 1 := by omega
          subst hc1
          go_wp2
          go_region_law (first
            | (refine step_append_blks rfl (.tmp 56) (.tmp 60) w.heap.size q (gCells blkCell L) [(x1, x2, x3)] (by exact O4.out.alloc _) (by exact blk_litR _ (x1, x2, x3)) rfl rfl (by go_simp) (by go_simp) (by simp; omega) (by show (q + 1) * 40 ≤ 140737488355328; omega) ?_; intro v6 w6 h6 k6 j6; have E6 : Hid (SideK w v6 w6 (L ++ [(x1, x2, x3)])) := Lib.hid (SideK.of B4.out O4.out HNN.out HQ.out h6 k6 j6); clear h6 k6 j6))
          simp only [Act.put, List.getElem_toArray, List.getElem_cons_zero, List.getElem_cons_succ, List.setIfInBounds_toArray, List.set_cons_succ, List.set_cons_zero]
          go_wp2
          exact ⟨⟨ta, (y1, y2, y3) :: tb, L ++ [(x1, x2, x3)], Lib.hid (TA.out.2 (by first | rfl | trivial)), RB, Lib.hid E6.out.own, Lib.hid E6.out.nn, hM2, by simp only [List.length_append, List.length_cons, List.length_nil]; have := HQ.out; omega, OA', OB, Lib.hid E6.out.bel⟩, by simp only [vlen]; omega⟩
        · go_wp2
          go_region_law (first
            | (refine step_append_blks rfl (.tmp 56) (.tmp 60) w.heap.size q (gCells blkCell L) [(x1, x2, x3)] (by exact O4.out.alloc _) (by exact blk_litR _ (x1, x2, x3)) rfl rfl (by go_simp) (by go_simp) (by simp; omega) (by show (q + 1) * 40 ≤ 140737488355328; omega) ?_; intro v6 w6 h6 k6 j6; have E6 : Hid (SideK w v6 w6 (L ++ [(x1, x2, x3)])) := Lib.hid (SideK.of B4.out O4.out HNN.out HQ.out h6 k6 j6); clear h6 k6 j6))
          simp only [Act.put, List.getElem_toArray, List.getElem_cons_zero, List.getElem_cons_succ, List.setIfInBounds_toArray, List.set_cons_succ, List.set_cons_zero]
          go_wp2
          exact ⟨⟨ta, (y1, y2, y3) :: tb, L ++ [(x1, x2, x3)], Lib.hid (TA.out.1), RB, Lib.hid E6.out.own, Lib.hid E6.out.nn, hM2, by simp only [List.length_append, List.length_cons, List.length_nil]; have := HQ.out; omega, OA', OB, Lib.hid E6.out.bel⟩, by simp only [vlen]; omega⟩
end Go.Proofs.YtmfmbmlfdlebfaaDoor
