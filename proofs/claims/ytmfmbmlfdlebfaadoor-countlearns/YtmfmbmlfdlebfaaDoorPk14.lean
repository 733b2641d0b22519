/- Texts that several proofs of this seat share, one behind the other: DTbl DTable ELaw CTab CPair DPairs. -/
import Derived.Test.YtmfmbmlfdlebfaaDoorPk11
import Derived.Test.YtmfmbmlfdlebfaaDoorPk13
/- count's tally.table: the table of what was counted. -/
namespace Go.Proofs.YtmfmbmlfdlebfaaDoor
open Go.RowKit Go.Shelf
set_option linter.unusedSimpArgs false
set_option linter.unusedVariables false

theorem szL_gat {l : List Blk} (h : szL l) : szL (gat l) := fun z hz => by
  rcases gat_keys l [] z hz with ⟨y, hy, e⟩ | ⟨y, hy, _⟩
  · have := h y hy
    rw [← e.1, ← e.2] at this
    exact this
  · simp at hy

/-- An entry of the map, as a block. -/
theorem sides_inv (key : Value) (kl : Lit) (h : keyOf Tryd.prog 68 key = some kl) : ∃ x : ByteArray × ByteArray, key = .agg #[.string x.1, .string x.2] := by
  obtain ⟨a, b, e, _⟩ := keyOf_sides_inv key kl h
  exact ⟨(a, b), e⟩
theorem count_inv (v : Value) (y : DataW Unit × List MemPlace) (h : plainElem Tryd.prog 3 v = some y) : ∃ c : Int, v = .int .i64 c := by
  obtain ⟨c, e, _⟩ := plainElem_int_inv Tryd.underlying3 h
  exact ⟨c, e⟩

set_option maxRecDepth 100000 in
set_option maxHeartbeats 8000000 in
theorem tally_table_any (p m base : Nat) (l : List Blk) (w : World) (hT : Tal w base p m l) (hpos : posN l) (hz : szL l) :
    Calls Tryd.prog 29 #[.pointer (some ⟨p, 0, none⟩)] w fun e w' => ∃ v, e = .returned (.tuple #[v, .int .i64 (if manyB l then 6 else 0)]) ∧ BRuns w' v (if manyB l then [] else gat l) ∧ Below w.heap.size w w' := by
  obtain ⟨_, _, k3, k4, _, tot, hrow, hrest⟩ := hT
  obtain ⟨y0, y1, y2, y3⟩ := cells_at hrow
  clear y3
  cases hmn : manyB l with
  | true =>
    rw [hmn] at y2
    clear hrest hrow hmn
    go_enter Tryd.func29, Tryd.ntmps29
    go_wp2
    go_ret2
    exact ⟨_, rfl, GRuns.nil_ _ _ _, Below.refl _ _⟩
  | false =>
    rw [hmn] at y2
    obtain ⟨_, D, hD, hV⟩ := hrest hmn
    have hlen := (manyB_false hmn).2
    have hzg := szL_gat hz
    have hgp := gat_pos hpos
    obtain ⟨t, ht⟩ : ∃ t, gat l = t := ⟨_, rfl⟩
    have huniq : ∀ (left : Lit → Bool) (cn : Nat) (L d : List Blk), Coll left cn L t → (∀ kl, left kl = false) → d.Perm L → d.Pairwise (fun x y => lessB y x = false) → d = t := fun left cn L d h1 h2 h3 h4 => by
      rw [← ht] at h1 ⊢
      exact coll_gat h1 h2 hpos (fun x hx => by have := hzg x hx; unfold maxLen; omega) h3 h4
    simp only [ht] at hD hV hlen hzg hgp ⊢
    have HU := Lib.hid huniq
    clear huniq hrest hrow hmn ht hpos hz
    obtain ⟨sz, hsz⟩ : ∃ z, Maps.size D = z := ⟨_, rfl⟩
    have hsz1 : sz = t.length := by rw [← hsz]; exact hV.size
    have hszl : sz ≤ 4096 := by omega
    have HSZ := Lib.hid hsz
    have HD := Lib.hid hD; have HV := Lib.hid hV; have HZG := Lib.hid hzg; have HGP := Lib.hid hgp; have HS1 := Lib.hid hsz1
    obtain ⟨wm, hmk, hown0, hgr0⟩ := make_blks w sz (by omega)
    have hbm : Below w.heap.size w wm := (Below.refl _ _).grown hgr0 (Nat.le_refl _) (fun k hk => by cases hk)
    have HOW := Lib.hid hown0; have BM := Lib.hid hbm
    have HDm : Hid (TalMap wm m t.length D) := Lib.hid (HD.out.kept hgr0 (by simp))
    have ym := (hbm.cell (p := ⟨p, 0, none⟩) k4).trans y0
    have hpm : p < wm.heap.size := Nat.lt_of_lt_of_le k4 hbm.size
    clear hsz hD hV hzg hgp hsz1 hown0 hbm hgr0
    go_enter Tryd.func29, Tryd.ntmps29
    go_wp2_with (first
      | (at_len; refine wpList_len_own _ rfl _ 64 rfl 68 3 Tryd.underlying64 _ m _ D rfl HD.out ?_; rw [HSZ.out])
      | (at_range; refine wpList_range_own _ rfl _ 64 rfl 68 3 sides_keyed Tryd.underlying64 _ m _ D rfl HDm.out ?_; intro w0 hrg0 hg0 hs0)
      | go_in)
    go_frame
    obtain ⟨r, hr⟩ : ∃ z, wm.heap.size = z := ⟨_, rfl⟩
    rw [hr] at hrg0 ⊢
    have hb0 : Below w.heap.size w w0 := BM.out.grown hg0 BM.out.size (fun k hk => by cases hk)
    have hc0 := Coll.start HV.out
    have ho0 : w0.ownsRow w.heap.size 43 3 (.slice (some ⟨w.heap.size, 0, none⟩) 0 sz) 0 [] := HOW.out.kept hg0 (.inr (by simp [Value.ownBlock]))
    have hrw : w.heap.size ≤ r := by rw [← hr]; exact BM.out.size
    have HRG0 := Lib.hid hrg0; have B0 := Lib.hid hb0; have HC0 := Lib.hid hc0; have HO0 := Lib.hid ho0
    clear hr hrg0 hg0 hs0 hb0 hc0 ho0 hmk HDm ym hpm HOW BM
    go_loopw [4] (fun s4 wr => ∃ (L : List Blk) (left : Lit → Bool) (cn : Nat), Hid (wr.ranges Tryd.prog 68 (plainElem Tryd.prog 3) m r t.length D left cn) ∧ Hid (wr.ownsRow w.heap.size 43 3 s4 L.length (gCells blkCell L)) ∧ Hid (s4 ≠ .slice none 0 0) ∧ Hid (Coll left cn L t) ∧ Hid (Below w.heap.size w wr)) (fun _ wr => wr.rangeLeft m r)
    case atStart => exact ⟨[], _, _, HRG0, HO0, Lib.hid (by simp), HC0, B0⟩
    case round =>
      obtain ⟨L, left, cn, HRG, HO, HNN, HC, BW⟩ := hrel
      clear HRG0 B0 HC0 HO0
      go_wp2_with (first
        | (at_next; refine wpList_next_ranges _ rfl _ rfl 68 sides_keyed (plainElem Tryd.prog 3) (fun x : ByteArray × ByteArray => .agg #[.string x.1, .string x.2]) (Value.int .i64) sides_inv count_inv m r _ D left cn rfl HRG.out ?_ ?_)
        | go_in)
      · intro _ hl0
        obtain ⟨n, hn⟩ : ∃ z, L.length = z := ⟨_, rfl⟩
        have hC := HC.out
        have hln := hC.len
        rw [hn] at HO hln
        obtain ⟨g, cap, e⟩ : ∃ g cap, u4 = .slice (some ⟨g, 0, none⟩) n cap := by
          rcases HO.out.2 with ⟨e, _⟩ | ⟨g, cap, cur, e, _⟩
          · exact absurd e HNN.out
          · exact ⟨g, cap, e⟩
        subst e
        have cs := Lib.hid (sort_own L n _ w.heap.size wr hn HO.out HNN.out (by omega) BW.out.size)
        have HL0 := Lib.hid hl0; have HN := Lib.hid hn; have HLN := Lib.hid hln
        clear hl0 hn hC hln
        go_wp2_with fail
        refine cs.out.mono ?_
        rintro e w3 ⟨rfl, d, hd1, hd2, hr3, hsh3, b3⟩
        obtain rfl : d = t := HU.out left cn L d HC.out HL0.out hd1 hd2
        have B3 : Hid (Below w.heap.size w w3) := Lib.hid (BW.out.trans b3)
        have hdn : d.length = n := by rw [hd1.length_eq]; exact HN.out
        have cr := Lib.hid (renew_any _ d n w3 hdn hr3 (.inr hsh3) (by have := HLN.out; omega) HZG.out)
        have R3 := Lib.hid hr3
        clear hd1 hd2 hr3 hsh3 b3 hdn
        go_wp2_with fail
        refine cr.out.mono ?_
        rintro e w4 ⟨rfl, b4⟩
        have B4 : Hid (Below w.heap.size w w4) := Lib.hid (B3.out.trans (b4.mono B3.out.size))
        have R4 := Lib.hid (R3.out.below b4)
        clear b4
        go_wp2
        go_ret2
        exact ⟨_, rfl, R4.out, B4.out⟩
      · intro a b c kl yd yp w2 cn2 hkey hlk hv hat hrg2 hlt hg2 hs2 hen
        obtain ⟨a', b', e, ha, hb, rfl⟩ := keyOf_sides_inv _ _ hkey
        obtain ⟨rfl, rfl⟩ : a = a' ∧ b = b' := by simpa using e
        obtain ⟨c', e1, e2, _⟩ := plainElem_int_inv Tryd.underlying3 hv
        obtain rfl : c = c' := by simpa using e1
        obtain ⟨rfl, rfl⟩ : yd = .lit (.int .i64 c) ∧ yp = [] := by simpa using e2
        have hcc : c = cnt t (a, b, 0) := by
          have h1 := hat (.lit (.int .i64 0))
          rw [HV.out.at_ a b ha hb] at h1
          simpa using h1.symm
        have hc1 : 1 ≤ c := by
          obtain ⟨a2, b2, ha2, hb2, e3, h3⟩ := HV.out.has _ (Maps.has_true_of_atKey hat)
          obtain ⟨rfl, rfl⟩ := keyL_inj ha hb ha2 hb2 e3
          rw [hcc]; omega
        have hC2 := HC.out.more (a, b, c) ha hb (by rw [hcc]; rfl) hc1 hlk hlt
        obtain ⟨n, hn⟩ : ∃ z, L.length = z := ⟨_, rfl⟩
        have hln := hC2.len
        simp only [List.length_append, List.length_cons, List.length_nil, hn] at hln
        rw [hn] at HO
        have hmw : m < w.heap.size := HD.out.lt
        have o2 := HO.out.kept hg2 (.inr (fun e => row_ne_iter HO.out HRG.out e.symm))
        have b2 : Below w.heap.size w w2 := BW.out.grown hg2 BW.out.size (fun k hk => by cases hk; exact hrw)
        have o3 := o2.alloc (.cells #[.string a, .string b] 68)
        have b3 := b2.alloc b2.size (.cells #[.string a, .string b] 68)
        have r3 := hrg2.alloc (.cells #[.string a, .string b] 68)
        have hx3 := heap_alloc_new w2 (.cells #[.string a, .string b] 68)
        obtain ⟨w3, hw3⟩ : ∃ z, w2.alloc (.cells #[.string a, .string b] 68) = z := ⟨_, rfl⟩
        rw [hw3] at o3 b3 r3 hx3
        obtain ⟨v', w4, hrun, o4, g4, at4⟩ := append_one (P := Tryd.prog) blk_ln blk_one info_blk rfl (by decide) (by decide) Tryd.underlying22 w3 w.heap.size _ n _ o3 (a, b, c) b3.size (by have := HS1.out; omega)
        have r4 := (r3.alloc (.cells (blkCell (a, b, c)).toArray 43)).kept g4 (row_ne_low o3 hmw) (row_ne_iter o3 r3)
        have b4 : Below w.heap.size w w4 := (b3.alloc b3.size _).grown g4 (by simp; exact Nat.le_succ_of_le b3.size) (fun k hk => (o3.lt k hk).1)
        have hnn4 : v' ≠ .slice none 0 0 := fun e => by
          rcases at4 with h | h
          · rw [e] at h
            rcases o3.2 with ⟨e', _⟩ | ⟨g, cap, cur, e', _⟩
            · exact HNN.out e'
            · rw [e'] at h; simp [Value.ownBlock] at h
          · rw [e] at h; simp [Value.ownBlock] at h
        have hsz3 : w3.heap.size = w2.heap.size + 1 := by rw [← hw3]; simp
        have hrun' : (Builtin.append_ #[22, 22] 22 #[u4, .slice (some ⟨w2.heap.size + 1, 0, none⟩) 1 1]).run Tryd.prog ((w2.alloc (.cells #[.string a, .string b] 68)).alloc (.cells #[.string a, .string b, .int .i64 c] 43)) = .ok v' w4 := by
          rw [← hsz3, hw3]; exact hrun
        have hdn : Hid ((∃ (L : List Blk) (left : Lit → Bool) (cn : Nat), Hid (w4.ranges Tryd.prog 68 (plainElem Tryd.prog 3) m r t.length D left cn) ∧ Hid (w4.ownsRow w.heap.size 43 3 v' L.length (gCells blkCell L)) ∧ Hid (v' ≠ .slice none 0 0) ∧ Hid (Coll left cn L t) ∧ Hid (Below w.heap.size w w4)) ∧ w4.rangeLeft m r < wr.rangeLeft m r) := Lib.hid ⟨⟨L ++ [(a, b, c)], _, _, Lib.hid r4, Lib.hid (by rw [List.length_append, hn, gCells_snoc]; exact o4), Lib.hid hnn4, Lib.hid hC2, Lib.hid b4⟩, by rw [r4.left_eq, HRG.out.left_eq]; exact hlt⟩
        have HRUN := Lib.hid hrun'
        clear hs2 hkey hlk hv hat hrg2 hlt hg2 e e1 e2 hcc hC2 hn hln o2 b2 o3 b3 r3 hx3 hrun o4 g4 at4 r4 b4 hnn4 hw3 HRG HO HNN HC BW hrun' hsz3
        go_wp2_with (first
          | (at_builtin; refine wpList_append_run (.tmp 27) (.tmp 34) 22 _ _ _ _ HRUN.out rfl rfl rfl rfl ?_)
          | go_in)
        exact hdn.out
end Go.Proofs.YtmfmbmlfdlebfaaDoor

/- count.Table: the table of blocks in whatever order. -/
namespace Go.Proofs.YtmfmbmlfdlebfaaDoor
open Go.RowKit Go.Shelf
set_option linter.unusedSimpArgs false
set_option linter.unusedVariables false

theorem tabE_many {l : List Blk} (h : chkAll l = 0) : tabE l = (if manyB l then 6 else 0) ∧ tabS l = (if manyB l then [] else gat l) := by
  have e : tabE l = (if manyB l then 6 else 0) := by
    rw [tabE, if_pos h]
    by_cases hm : 1073741824 < sumN l ∨ 4096 < (gat l).length
    · rw [if_pos hm.symm, if_pos (by simp [manyB, hm])]
    · rw [if_neg (fun h => hm h.symm), if_neg (by simp only [manyB, decide_eq_true_eq]; exact hm)]
  refine ⟨e, ?_⟩
  rw [tabS, e]
  cases manyB l <;> simp
theorem take_snoc {l : List Blk} {k : Nat} {x : Blk} (h : l[k]? = some x) : l.take (k + 1) = l.take k ++ [x] := by rw [List.take_add_one, h]; rfl

set_option maxRecDepth 100000 in
set_option maxHeartbeats 8000000 in
theorem ctable_any (u : Value) (l : List Blk) (w : World) (hO : Okw w) (hu : BRuns w u l) (hl : l.length ≤ 2000000) (hz : szL l) :
    Calls Tryd.prog 12 #[u] w fun e w' => ∃ v, e = .returned (.tuple #[v, .int .i64 (tabE l)]) ∧ BRuns w' v (tabS l) ∧ Below w.heap.size w w' := by
  obtain ⟨A, c, e⟩ := hu.slice
  subst e
  have ce := fun w hO hu => each_any (.slice A l.length c) l w hO hu hl hz
  have HU := Lib.hid hu; clear hu
  have HOK := Lib.hid hO; clear hO
  obtain ⟨n, hn⟩ : ∃ n, l.length = n := ⟨_, rfl⟩
  obtain ⟨ea, hea⟩ : ∃ r, chkAll l = r := ⟨_, rfl⟩
  obtain ⟨res, hres⟩ : ∃ r, tabE l = r := ⟨_, rfl⟩
  obtain ⟨X, hX⟩ : ∃ r, tabS l = r := ⟨_, rfl⟩
  have HK : Hid (ea = 0 → okN l ∧ res = (if manyB l then 6 else 0) ∧ X = (if manyB l then [] else gat l)) := Lib.hid (fun h => by
    rw [h] at hea
    have := tabE_many hea
    rw [hres, hX] at this
    exact ⟨okN_of hea, this⟩)
  have HK2 : Hid (ea ≠ 0 → res = ea ∧ X = []) := Lib.hid (fun h => by
    have e1 : tabE l = ea := by rw [tabE, if_neg (by rw [hea]; exact h), hea]
    rw [← hres, ← hX]
    exact ⟨e1, by rw [tabS, if_neg (by rw [e1]; exact h)]⟩)
  rw [hres, hX]
  simp only [hea, hn] at ce
  rw [hn] at hl HU ⊢
  have HN := Lib.hid hn; have CE := Lib.hid ce; have HZ := Lib.hid hz
  clear hn ce hz hea hres hX
  have CN := Lib.hid newTally_any
  go_enter Tryd.func12, Tryd.ntmps12
  go_wp2_with fail
  refine (CE.out _ HOK.out HU.out).mono ?_
  rintro e w1 ⟨rfl, b1⟩
  have U1 := Lib.hid (HU.out.below b1)
  have B1 := Lib.hid b1; clear b1
  by_cases h0 : ea = 0
  · subst h0
    obtain ⟨hok, hr1, hr2⟩ := HK.out (by first | rfl | trivial)
    have OK := Lib.hid hok; have HR1 := Lib.hid hr1; have HR2 := Lib.hid hr2
    clear hok hr1 hr2 HK HK2
    go_wp2_with fail
    refine (CN.out _).mono ?_
    rintro e w2 ⟨rfl, t2, b2⟩
    obtain ⟨base, hbs⟩ : ∃ z, w1.heap.size = z := ⟨_, rfl⟩
    rw [hbs] at t2 b2 ⊢
    have hws : w.heap.size ≤ base := by rw [← hbs]; exact B1.out.size
    have T2 := Lib.hid t2; have B2 := Lib.hid b2; have HBS := Lib.hid hbs
    clear t2 b2 hbs
    go_wp2
    go_loopw [16] (fun s16 wr => ∃ k : Nat, k ≤ n ∧ s16 = .int .i64 k ∧ Hid (Tal wr base (base + 1) base (l.take k)) ∧ Hid (Below base w1 wr)) (fun s16 _ => n - (RowKit.intOf s16).toNat)
    case atStart => exact ⟨0, Nat.zero_le _, rfl, T2, B2⟩
    case round =>
      obtain ⟨k, hkn, rfl, HT, BW⟩ := hrel
      have hbw : base ≤ wr.heap.size := by rw [← HBS.out]; exact BW.out.size
      have BB : Hid (Below w.heap.size w wr) := Lib.hid (B1.out.trans (BW.out.mono hws))
      by_cases hk : k < n
      · have k1 : (k : Int) < (n : Int) := by omega
        obtain ⟨⟨p1, p2, p3⟩, hp⟩ : ∃ p, l[k]? = some p := ⟨_, List.getElem?_eq_getElem (by rw [HN.out]; exact hk)⟩
        obtain ⟨b, o, rfl, _, hc⟩ := (HU.out.below BB.out).cells HN.out (by omega)
        obtain ⟨g0, g1, g2⟩ := blk_cells hc hp
        simp only at g0 g1 g2
        have hz1 := HZ.out _ (List.mem_of_getElem? hp)
        have hN1 := OK.out _ (List.mem_of_getElem? hp)
        have hal : Below wr.heap.size wr (wr.alloc (.cells #[.string p1, .string p2, .int .i64 p3] 43)) := (Below.refl _ _).alloc (Nat.le_refl _) _
        have BA : Hid (Below base w1 (wr.alloc (.cells #[.string p1, .string p2, .int .i64 p3] 43))) := Lib.hid (BW.out.trans (hal.mono hbw))
        have cad := add_any (base + 1) base base (l.take k) (p1, p2, p3) (wr.alloc (.cells #[.string p1, .string p2, .int .i64 p3] 43)) (HT.out.kept hal) (by simp; omega) (fun z hz => (OK.out z (List.mem_of_mem_take hz)).1) hN1.1 hN1.2 hz1.1 hz1.2
        rw [← take_snoc hp] at cad
        simp only at cad
        have CAD := Lib.hid cad
        clear hc hp hal cad
        go_wp2_with fail
        refine CAD.out.mono ?_
        rintro e w5 ⟨rfl, t5, b5, _⟩
        have T5 := Lib.hid t5
        have B5 : Hid (Below base w1 w5) := Lib.hid (BA.out.trans b5)
        clear t5 b5
        go_wp2
        exact ⟨⟨k + 1, by omega, by go_num, T5, B5⟩, by simp [RowKit.intOf]; omega⟩
      · obtain rfl : k = n := by omega
        have ht := HT.out
        rw [List.take_of_length_le (by rw [HN.out]; exact Nat.le_refl _)] at ht
        have ct := tally_table_any (base + 1) base base l wr ht (fun z hz => (OK.out z hz).1) HZ.out
        rw [← HR1.out, ← HR2.out] at ct
        have CT := Lib.hid ct
        clear ht ct
        go_wp2_with fail
        refine CT.out.mono ?_
        rintro e w5 ⟨v, rfl, r5, b5⟩
        obtain ⟨A5, c5, e5⟩ := r5.slice
        subst e5
        have R5 := Lib.hid r5
        have B5 : Hid (Below w.heap.size w w5) := Lib.hid (BB.out.trans (b5.mono BB.out.size))
        clear r5 b5
        go_wp2
        go_ret2
        exact ⟨_, rfl, R5.out, B5.out⟩
  · have h0' : (ea == 0) = false := by simpa using h0
    obtain ⟨hr1, hr2⟩ := HK2.out h0
    have HR1 := Lib.hid hr1; have HR2 := Lib.hid hr2
    clear hr1 hr2 HK HK2
    go_wp2
    go_ret2
    exact ⟨_, by rw [HR1.out]; rfl, by rw [HR2.out]; exact GRuns.nil_ _ _ _, B1.out⟩
end Go.Proofs.YtmfmbmlfdlebfaaDoor

/- great, alive of layer 6: which blocks are looked at; the document's example. -/
namespace Go.Proofs.YtmfmbmlfdlebfaaDoor
open Go.RowKit Go.Shelf
set_option linter.unusedSimpArgs false
set_option linter.unusedVariables false

/-- Texts together. -/
def smT (l : List Blk) : Nat := (l.map (fun b => b.1.size + b.2.1.size)).sum
theorem smT_take {l : List Blk} (k : Nat) (x : Blk) (h : l[k]? = some x) : smT (l.take (k + 1)) = smT (l.take k) + (x.1.size + x.2.1.size) := by
  rw [List.take_add_one, h]; simp [smT]
theorem smT_mem (l : List Blk) : ∀ b ∈ l, b.1.size + b.2.1.size ≤ smT l := by
  induction l with
  | nil => simp
  | cons a l ih =>
    intro b hb
    have e : smT (a :: l) = a.1.size + a.2.1.size + smT l := by simp [smT]
    rw [e]
    rcases List.mem_cons.1 hb with rfl | hb
    · omega
    · have := ih b hb; omega
theorem smT_le {l : List Blk} {c : Nat} (h : ∀ b ∈ l, b.1.size ≤ c ∧ b.2.1.size ≤ c) (k : Nat) : smT (l.take k) ≤ k * (2 * c) := by
  induction k with
  | zero => simp [smT]
  | succ k ih =>
    cases hx : l[k]? with
    | none =>
      rw [List.take_add_one, hx]
      simp only [Option.toList_none, List.append_nil]
      rw [Nat.succ_mul]; omega
    | some x =>
      have := h x (List.mem_of_getElem? hx)
      rw [smT_take k x hx, Nat.succ_mul]; omega
/-- Texts as long as a text may be. -/
def szM (l : List Blk) : Prop := ∀ b ∈ l, b.1.size ≤ 140737488355328 ∧ b.2.1.size ≤ 140737488355328
/-- Blocks that are looked at. -/
def notGreat (l : List Blk) : Prop := l.length ≤ 500 ∧ ∀ b ∈ l, b.1.size ≤ 8000 ∧ b.2.1.size ≤ 8000
theorem notGreat.szB {l : List Blk} (h : notGreat l) : szB l := fun b hb => by have := h.2 b hb; omega
theorem notGreat.szL {l : List Blk} (h : notGreat l) : szL l := szL_of h.szB

set_option maxRecDepth 100000 in
set_option maxHeartbeats 4000000 in
theorem great_any (u : Value) (l : List Blk) (w : World) (hu : BRuns w u l) (hz : szM l) :
    Calls Tryd.prog 11 #[u] w fun e w' => (e = .returned (.bool true) ∨ (e = .returned (.bool false) ∧ notGreat l)) ∧ Below w.heap.size w w' := by
  have hcm : l.length ≤ maxLen := by
    obtain ⟨_, c, _, h1, h2, _⟩ := hu
    exact Nat.le_trans h1 h2.1
  obtain ⟨A, c, e⟩ := hu.slice
  subst e
  have HU := Lib.hid hu; clear hu
  obtain ⟨n, hn⟩ : ∃ n, l.length = n := ⟨_, rfl⟩
  rw [hn] at HU hcm ⊢
  have HN := Lib.hid hn
  unfold maxLen at hcm
  by_cases hbig : 500 < n
  · clear hz hn
    go_enter Tryd.func11, Tryd.ntmps11
    go_wp2
    go_loopw [3, 8] (fun s3 s8 wr => ∃ (k : Nat) (s : Int), k ≤ n ∧ s8 = .int .i64 k ∧ s3 = .int .i64 s ∧ Hid (Below w.heap.size w wr)) (fun _ s8 _ => n - (RowKit.intOf s8).toNat)
    case atStart => exact ⟨0, 0, Nat.zero_le _, rfl, rfl, Lib.hid (Below.refl _ _)⟩
    case round =>
      obtain ⟨k, s, hkn, rfl, rfl, BW⟩ := hrel
      by_cases hk : k < n
      · have k1 : (k : Int) < (n : Int) := by omega
        obtain ⟨⟨p1, p2, p3⟩, hp⟩ : ∃ p, l[k]? = some p := ⟨_, List.getElem?_eq_getElem (by rw [HN.out]; exact hk)⟩
        obtain ⟨b, o, rfl, _, hc⟩ := (HU.out.below BW.out).cells HN.out (by omega)
        obtain ⟨g0, g1, g2⟩ := blk_cells hc hp
        simp only at g0 g1 g2
        have hal : Hid (Below w.heap.size w (wr.alloc (.cells #[.string p1, .string p2, .int .i64 p3] 43))) := Lib.hid (BW.out.alloc BW.out.size _)
        clear hc hp
        go_wp2
        exact ⟨⟨k + 1, _, by omega, by go_num, rfl, hal⟩, by simp [RowKit.intOf]; omega⟩
      · obtain rfl : k = n := by omega
        have h5 : (500 : Int) < (k : Int) := by omega
        go_wp2
        go_ret
        exact ⟨.inl rfl, BW.out⟩
  · have hb' := smT_le (l := l) (c := 140737488355328) hz
    obtain ⟨sm, hsm⟩ : ∃ f, f = fun k => smT (l.take k) := ⟨_, rfl⟩
    have hst : ∀ k x, l[k]? = some x → sm (k + 1) = sm k + (x.1.size + x.2.1.size) := fun k x hx => by rw [hsm]; exact smT_take k x hx
    have hbd : ∀ k, sm k ≤ k * (2 * 140737488355328) := fun k => by rw [hsm]; exact hb' k
    have h0 : sm 0 = 0 := by rw [hsm]; simp [smT]
    have hfin : ∀ b ∈ l, b.1.size + b.2.1.size ≤ sm n := fun b hb => by
      rw [hsm]
      simp only
      rw [List.take_of_length_le (by rw [hn]; exact Nat.le_refl _)]
      exact smT_mem l b hb
    have ST := Lib.hid hst; have BD := Lib.hid hbd; have HF := Lib.hid hfin; have HZ := Lib.hid hz
    clear hst hbd hfin hsm hb' hz hn
    go_enter Tryd.func11, Tryd.ntmps11
    go_wp2
    go_loopw [3, 8] (fun s3 s8 wr => ∃ k : Nat, k ≤ n ∧ s8 = .int .i64 k ∧ s3 = .int .i64 (sm k : Nat) ∧ Hid (Below w.heap.size w wr)) (fun _ s8 _ => n - (RowKit.intOf s8).toNat)
    case atStart => exact ⟨0, Nat.zero_le _, rfl, by rw [h0]; rfl, Lib.hid (Below.refl _ _)⟩
    case round =>
      obtain ⟨k, hkn, rfl, rfl, BW⟩ := hrel
      have bk := BD.out k
      obtain ⟨s, es⟩ : ∃ s, sm k = s := ⟨_, rfl⟩
      rw [es] at bk ⊢
      have HES := Lib.hid es; clear es
      by_cases hk : k < n
      · have k1 : (k : Int) < (n : Int) := by omega
        obtain ⟨⟨p1, p2, p3⟩, hp⟩ : ∃ p, l[k]? = some p := ⟨_, List.getElem?_eq_getElem (by rw [HN.out]; exact hk)⟩
        obtain ⟨b, o, rfl, _, hc⟩ := (HU.out.below BW.out).cells HN.out (by omega)
        obtain ⟨g0, g1, g2⟩ := blk_cells hc hp
        simp only at g0 g1 g2
        have hs1 := ST.out k _ hp
        have hz1 := HZ.out _ (List.mem_of_getElem? hp)
        simp only at hs1 hz1
        rw [HES.out] at hs1
        have HS1 := Lib.hid hs1
        have w1 : IntKind.i64.wrap ((p1.size : Int) + (p2.size : Int)) = (p1.size : Int) + (p2.size : Int) := by rw [IntKind.wrap_i64]; omega
        have w2 : IntKind.i64.wrap ((s : Int) + ((p1.size : Int) + (p2.size : Int))) = (s : Int) + ((p1.size : Int) + (p2.size : Int)) := by rw [IntKind.wrap_i64]; omega
        have hal : Hid (Below w.heap.size w (wr.alloc (.cells #[.string p1, .string p2, .int .i64 p3] 43))) := Lib.hid (BW.out.alloc BW.out.size _)
        clear hc hp hs1
        go_wp2
        exact ⟨⟨k + 1, by omega, by go_num, by rw [HS1.out]; simp, hal⟩, by simp [RowKit.intOf]; omega⟩
      · obtain rfl : k = n := by omega
        have h5 : ¬ (500 : Int) < (k : Int) := by omega
        by_cases h8 : 8000 < s
        · have h8' : (8000 : Int) < (s : Int) := by omega
          go_wp2
          go_ret
          exact ⟨.inl rfl, BW.out⟩
        · have h8' : ¬ (8000 : Int) < (s : Int) := by omega
          have HNG : Hid (notGreat l) := Lib.hid ⟨by rw [HN.out]; omega, fun b hb => by have := HF.out b hb; have := HES.out; omega⟩
          go_wp2
          go_ret
          exact ⟨.inr ⟨rfl, HNG.out⟩, BW.out⟩

/-- The document's example. -/
def Alive6 : Prop := ∀ w, Okw w → Calls Tryd.prog 10 #[] w fun e w' => e = .returned (.bool true) ∧ Below w.heap.size w w'
theorem ex6 : tabE [(⟨#[114, 110]⟩, ⟨#[109]⟩, 1), (⟨#[108]⟩, ⟨#[105]⟩, 1), (⟨#[114, 110]⟩, ⟨#[109]⟩, 1)] = 0 ∧ tabS [(⟨#[114, 110]⟩, ⟨#[109]⟩, 1), (⟨#[108]⟩, ⟨#[105]⟩, 1), (⟨#[114, 110]⟩, ⟨#[109]⟩, 1)] = [(⟨#[108]⟩, ⟨#[105]⟩, 1), (⟨#[114, 110]⟩, ⟨#[109]⟩, 2)] := by
  decide +kernel
theorem lit_blks (D : World) (L : List Blk) (h : L.length ≤ 1000) : GRuns blkCell 3 (D.alloc (.cells (gCells blkCell L).toArray 43)) (.slice (some ⟨D.heap.size, 0, none⟩) L.length L.length) L := by
  refine GRuns.of_own (base := 0) (n := L.length) blk_ln rfl ⟨gCells_len blk_ln L, .inr ⟨D.heap.size, L.length, (gCells blkCell L).toArray, rfl, Nat.zero_le _, heap_alloc_new D _, Nat.le_refl _, by unfold maxLen; omega, ?_, ?_⟩⟩
  · rw [List.size_toArray, gCells_len blk_ln]
  · show (gCells blkCell L).take (L.length * 3) = _
    rw [List.take_of_length_le (by rw [gCells_len blk_ln]; exact Nat.le_refl _)]
set_option maxRecDepth 100000 in
set_option maxHeartbeats 4000000 in
theorem alive6_any : Alive6 := by
  intro w h
  have b0 := ((Below.refl w.heap.size w).alloc (Nat.le_refl _) (.cells #[.string ⟨#[114, 110]⟩, .string ⟨#[109]⟩, .int .i64 1] 43)).alloc (by simp) (.cells #[.string ⟨#[108]⟩, .string ⟨#[105]⟩, .int .i64 1] 43)
  have hx := heap_alloc_new (w.alloc (.cells #[.string ⟨#[114, 110]⟩, .string ⟨#[109]⟩, .int .i64 1] 43)) (.cells #[.string ⟨#[108]⟩, .string ⟨#[105]⟩, .int .i64 1] 43)
  obtain ⟨wb, hwb⟩ : ∃ z, (w.alloc (.cells #[.string ⟨#[114, 110]⟩, .string ⟨#[109]⟩, .int .i64 1] 43)).alloc (.cells #[.string ⟨#[108]⟩, .string ⟨#[105]⟩, .int .i64 1] 43) = z := ⟨_, rfl⟩
  have hs : wb.heap.size = w.heap.size + 1 + 1 := by rw [← hwb]; simp
  rw [hwb, World.size_alloc] at hx
  rw [hwb] at b0
  have r1 := lit_blks wb [(⟨#[114, 110]⟩, ⟨#[109]⟩, 1), (⟨#[108]⟩, ⟨#[105]⟩, 1), (⟨#[114, 110]⟩, ⟨#[109]⟩, 1)] (by simp)
  have b1 := (Below.refl wb.heap.size wb).alloc (Nat.le_refl _) (.cells #[.string ⟨#[114, 110]⟩, .string ⟨#[109]⟩, .int .i64 1, .string ⟨#[108]⟩, .string ⟨#[105]⟩, .int .i64 1, .string ⟨#[114, 110]⟩, .string ⟨#[109]⟩, .int .i64 1] 43)
  have hx1 := (b1.block (w.heap.size + 1) (by rw [hs]; omega)).trans hx
  change GRuns blkCell 3 (wb.alloc (.cells #[.string ⟨#[114, 110]⟩, .string ⟨#[109]⟩, .int .i64 1, .string ⟨#[108]⟩, .string ⟨#[105]⟩, .int .i64 1, .string ⟨#[114, 110]⟩, .string ⟨#[109]⟩, .int .i64 1] 43)) (.slice (some ⟨wb.heap.size, 0, none⟩) 3 3) _ at r1
  rw [hs] at r1
  obtain ⟨wa, hwa⟩ : ∃ z, wb.alloc (.cells #[.string ⟨#[114, 110]⟩, .string ⟨#[109]⟩, .int .i64 1, .string ⟨#[108]⟩, .string ⟨#[105]⟩, .int .i64 1, .string ⟨#[114, 110]⟩, .string ⟨#[109]⟩, .int .i64 1] 43) = z := ⟨_, rfl⟩
  rw [hwa] at r1 hx1 b1
  have ba : Below w.heap.size w wa := b0.trans (b1.mono b0.size)
  have c1 := ctable_any _ _ wa (h.below ba) r1 (by simp) (fun b hb => by
    simp only [List.mem_cons, List.mem_nil_iff, or_false] at hb
    rcases hb with rfl | rfl | rfl <;> exact ⟨by decide, by decide⟩)
  rw [ex6.1, ex6.2] at c1
  have HWA : Hid (((w.alloc (.cells #[.string ⟨#[114, 110]⟩, .string ⟨#[109]⟩, .int .i64 1] 43)).alloc (.cells #[.string ⟨#[108]⟩, .string ⟨#[105]⟩, .int .i64 1] 43)).alloc (.cells #[.string ⟨#[114, 110]⟩, .string ⟨#[109]⟩, .int .i64 1, .string ⟨#[108]⟩, .string ⟨#[105]⟩, .int .i64 1, .string ⟨#[114, 110]⟩, .string ⟨#[109]⟩, .int .i64 1] 43) = wa) := Lib.hid (by rw [hwb, hwa])
  have C1 := Lib.hid c1; have HX := Lib.hid hx1; have BA := Lib.hid ba
  have LT : w.heap.size + 1 < wa.heap.size := (Array.getElem?_eq_some_iff.1 hx1).1
  clear c1 hx hx1 ba b0 b1 r1 hs hwa hwb
  go_enter Tryd.func10, Tryd.ntmps10
  go_wp2_with fail
  rw [HWA.out]
  refine C1.out.mono ?_
  rintro e w1 ⟨v, rfl, r1, b1⟩
  obtain ⟨A, c, rfl⟩ := r1.slice
  obtain ⟨b, o, rfl, _, hc⟩ := r1.cells rfl (by simp)
  obtain ⟨f0, f1, f2⟩ := blk_cells (j := 0) hc rfl
  obtain ⟨f3, f4, f5⟩ := blk_cells (j := 1) hc rfl
  simp at f0 f1 f2 f3 f4 f5
  obtain ⟨d0, d1, d2, _⟩ := cells_at ((b1.block _ LT).trans HX.out)
  have B1 := Lib.hid (BA.out.trans (b1.mono BA.out.size))
  clear hc r1 b1
  simp only [List.length_cons, List.length_nil, Nat.zero_add]
  obtain ⟨bx, hbx⟩ : ∃ z, w.heap.size + 1 = z := ⟨_, rfl⟩
  rw [hbx] at d0 d1 d2 ⊢
  clear hbx LT HX C1 HWA BA
  go_wp2
  go_quiet (fail)
  go_wp2
  go_ret
  exact ⟨rfl, below_draws B1.out _⟩
end Go.Proofs.YtmfmbmlfdlebfaaDoor

/- errataref06.Table: blocks, each once, in order, counted, or why they may not be. -/
namespace Go.Proofs.YtmfmbmlfdlebfaaDoor
open Go.RowKit Go.Shelf
set_option linter.unusedSimpArgs false
set_option linter.unusedVariables false

set_option maxRecDepth 100000 in
set_option maxHeartbeats 8000000 in
theorem refTable_any (u : Value) (l : List Blk) (w : World) (hu : BRuns w u l) (hl : l.length ≤ 10000) (hz : szB l) :
    Calls Tryd.prog 13 #[u] w fun e w' => ∃ v, e = .returned (.tuple #[v, .int .i64 (tabE l)]) ∧ BRuns w' v (tabS l) ∧ Below w.heap.size w w' := by
  obtain ⟨A, c, e⟩ := hu.slice
  subst e
  have HU := Lib.hid hu; clear hu
  have cg := fun w hu hok => refGathered_any (.slice A l.length c) l w hu hl hok
  have cs := fun w hu hok => refSum_any (.slice A l.length c) l w hu (by omega) hok
  obtain ⟨n, hn⟩ : ∃ n, l.length = n := ⟨_, rfl⟩
  obtain ⟨gm, hgm⟩ : ∃ z, (gat l).length = z := ⟨_, rfl⟩
  obtain ⟨g, hg⟩ : ∃ z, gat l = z := ⟨_, rfl⟩
  obtain ⟨sN, hsN⟩ : ∃ z, sumN l = z := ⟨_, rfl⟩
  have hglen : gm ≤ n := by rw [← hgm, ← hn]; exact gat_len l
  have hT : tabE l = if chkAll l = 0 then (if 4096 < gm ∨ 1073741824 < sN then 6 else 0) else chkAll l := by rw [tabE, hgm, hsN]
  have hS : tabS l = if tabE l = 0 then g else [] := by rw [tabS, hg]
  obtain ⟨res, hres⟩ : ∃ r, tabE l = r := ⟨_, rfl⟩
  rw [hres] at hT hS ⊢
  rw [hg] at hgm
  simp only [hn, hg, hgm] at cg
  simp only [hn, hsN] at cs
  obtain ⟨X, hX⟩ : ∃ X, tabS l = X := ⟨_, rfl⟩
  rw [hX] at hS ⊢
  have HX := Lib.hid hS
  have HT := Lib.hid hT; clear hT hres hS hX
  rw [hn] at hl HU ⊢
  have HN := Lib.hid hn; have HGM := Lib.hid hgm; clear hn hg hgm hsN
  have HZ := Lib.hid hz; clear hz
  have CG := Lib.hid cg; have CS := Lib.hid cs; clear cg cs
  have C5 := Lib.hid refCheck5_any
  go_enter Tryd.func13, Tryd.ntmps13
  go_wp2
  go_loopw [10] (fun s10 wr => ∃ k : Nat, k ≤ n ∧ s10 = .int .i64 k ∧ Hid (chkAll (l.take k) = 0) ∧ Hid (Below w.heap.size w wr)) (fun s10 _ => n - (RowKit.intOf s10).toNat)
  case atStart => exact ⟨0, Nat.zero_le _, rfl, Lib.hid rfl, Lib.hid (Below.refl _ _)⟩
  case round =>
    obtain ⟨k, hkn, rfl, HC, BW⟩ := hrel
    by_cases hk : k < n
    · have k1 : (k : Int) < (n : Int) := by omega
      obtain ⟨⟨p1, p2, p3⟩, hp⟩ : ∃ p, l[k]? = some p := ⟨_, List.getElem?_eq_getElem (by rw [HN.out]; exact hk)⟩
      obtain ⟨b, o, rfl, _, hc⟩ := (HU.out.below BW.out).cells HN.out (by omega)
      obtain ⟨g0, g1, g2⟩ := blk_cells hc hp
      simp only at g0 g1 g2
      have hz1 := HZ.out _ (List.mem_of_getElem? hp)
      have hch := chkAll_take k _ hp HC.out
      simp only at hz1
      obtain ⟨er, her⟩ : ∃ z, chkS (p1, p2, p3) = z := ⟨_, rfl⟩
      rw [her] at hch
      have HCH := Lib.hid hch
      have hal : Hid (Below w.heap.size w (wr.alloc (.cells #[.string p1, .string p2, .int .i64 p3] 43))) := Lib.hid (BW.out.alloc BW.out.size _)
      have c5 := C5.out p1 p2 p3 (wr.alloc (.cells #[.string p1, .string p2, .int .i64 p3] 43)) (by omega) (by omega)
      rw [her] at c5
      have CC := Lib.hid c5
      clear hc hp hch c5 her
      go_wp2_with fail
      refine CC.out.mono ?_
      rintro e w5 ⟨rfl, b5⟩
      have B5 : Hid (Below w.heap.size w w5) := Lib.hid (hal.out.trans (b5.mono hal.out.size))
      clear b5
      by_cases h0 : er = 0
      · subst h0
        go_wp2
        exact ⟨⟨k + 1, by omega, by go_num, Lib.hid (HCH.out.1 (by first | rfl | trivial)), B5⟩, by simp [RowKit.intOf]; omega⟩
      · have h0' : (er == 0) = false := by simpa using h0
        have hr : Hid (res = er) := Lib.hid (by rw [HT.out, if_neg (by rw [HCH.out.2 h0]; exact h0), HCH.out.2 h0])
        go_wp2
        go_ret2
        exact ⟨_, by rw [hr.out]; rfl, by rw [HX.out, if_neg (by rw [hr.out]; exact h0)]; exact GRuns.nil_ _ _ _, B5.out⟩
    · obtain rfl : k = n := by omega
      have HC0 : Hid (chkAll l = 0) := Lib.hid (by have := HC.out; rwa [← HN.out, List.take_length] at this)
      clear HC
      have OK := Lib.hid (okN_of HC0.out)
      have U2 := Lib.hid (HU.out.below BW.out)
      go_wp2_with fail
      refine (CG.out _ U2.out OK.out).mono ?_
      rintro e w5 ⟨v, rfl, ho, b5⟩
      have gR := GRuns.of_own blk_ln HGM.out ho
      obtain ⟨A', c', hv⟩ := gR.slice
      rw [HGM.out] at hv
      subst hv
      have GR := Lib.hid gR; clear gR ho
      have U5 := Lib.hid (U2.out.below b5)
      have B5 : Hid (Below w.heap.size w w5) := Lib.hid (BW.out.trans (b5.mono BW.out.size))
      clear b5
      by_cases hbig : 4096 < gm
      · have hb1 : (4096 : Int) < (gm : Int) := by omega
        have hr : Hid (res = 6) := Lib.hid (by rw [HT.out, if_pos HC0.out, if_pos (.inl hbig)])
        go_wp2
        go_ret2
        exact ⟨_, by rw [hr.out]; rfl, by rw [HX.out, if_neg (by rw [hr.out]; decide)]; exact GRuns.nil_ _ _ _, B5.out⟩
      · have hb1 : ¬ (4096 : Int) < (gm : Int) := by omega
        go_wp2_with fail
        refine (CS.out _ U5.out OK.out).mono ?_
        rintro e w6 ⟨rfl, b6⟩
        have B6 : Hid (Below w.heap.size w w6) := Lib.hid (B5.out.trans (b6.mono B5.out.size))
        have G6 := Lib.hid (GR.out.below b6)
        clear b6
        by_cases hsum : 1073741824 < sN
        · have hr : Hid (res = 6) := Lib.hid (by rw [HT.out, if_pos HC0.out, if_pos (.inr hsum)])
          go_wp2
          go_ret2
          exact ⟨_, by rw [hr.out]; rfl, by rw [HX.out, if_neg (by rw [hr.out]; decide)]; exact GRuns.nil_ _ _ _, B6.out⟩
        · have hr : Hid (res = 0) := Lib.hid (by rw [HT.out, if_pos HC0.out, if_neg (by omega)])
          go_wp2
          go_ret2
          exact ⟨_, by rw [hr.out]; rfl, by rw [HX.out, if_pos hr.out]; exact G6.out, B6.out⟩
end Go.Proofs.YtmfmbmlfdlebfaaDoor

/- Many pairs of texts: their blocks, plain; errataref06.Pairs. -/
namespace Go.Proofs.YtmfmbmlfdlebfaaDoor
open Go.RowKit Go.Shelf
set_option linter.unusedSimpArgs false
set_option linter.unusedVariables false

abbrev Pr : Type := ByteArray × ByteArray
def prCell (p : Pr) : List Value := [.string p.1, .string p.2]
abbrev PRuns (w : World) (v : Value) (l : List Pr) : Prop := GRuns prCell 2 w v l
theorem pr_cells {w : World} {b o j : Nat} {x : Pr} {l : List Pr} (h : ∀ j x, l[j]? = some x → ∀ i u, (prCell x)[i]? = some u → w.cell? ⟨b, o + j * 2 + i, none⟩ = some u) (hj : l[j]? = some x) :
    w.cell? ⟨b, o + j * 2, none⟩ = some (.string x.1) ∧ w.cell? ⟨b, o + j * 2 + 1, none⟩ = some (.string x.2) := ⟨h j x hj 0 _ rfl, h j x hj 1 _ rfl⟩
def prE (p : Pr) : Int := tokErr2 p.1.data.toList p.2.data.toList
def prB (p : Pr) : List Blk := ofS (stepsS p.1.data.toList p.2.data.toList)
/-- The first pair's error that has one, or 0. -/
def prErr : List Pr → Int
  | [] => 0
  | p :: l => if prE p = 0 then prErr l else prE p
def prBlks (l : List Pr) : List Blk := l.flatMap prB
def parE (l : List Pr) : Int := if 65536 < l.length then 6 else if prErr l = 0 then tabE (prBlks l) else prErr l
def parS (l : List Pr) : List Blk := if parE l = 0 then gat (prBlks l) else []

theorem prErr_zero {l : List Pr} : prErr l = 0 ↔ ∀ p ∈ l, prE p = 0 := by
  induction l with
  | nil => simp [prErr]
  | cons a l ih =>
    rw [prErr]
    split
    · rename_i h
      rw [ih]
      constructor
      · intro h2 b hb
        rcases List.mem_cons.1 hb with rfl | hb
        · exact h
        · exact h2 b hb
      · exact fun h2 b hb => h2 b (by simp [hb])
    · rename_i h
      exact ⟨fun h2 => absurd h2 h, fun h2 => absurd (h2 a (by simp)) h⟩
theorem prErr_append (a b : List Pr) : prErr (a ++ b) = if prErr a = 0 then prErr b else prErr a := by
  induction a with
  | nil => simp [prErr]
  | cons p a ih =>
    rw [List.cons_append, prErr, prErr, ih]
    by_cases h : prE p = 0
    · simp [h]
    · simp [h]
theorem prErr_take {l : List Pr} (k : Nat) (x : Pr) (h : l[k]? = some x) (h0 : prErr (l.take k) = 0) : (prE x = 0 → prErr (l.take (k + 1)) = 0) ∧ (prE x ≠ 0 → prErr l = prE x) := by
  refine ⟨fun hx => ?_, fun hx => ?_⟩
  · rw [List.take_add_one, h, prErr_append, if_pos h0]; simp [prErr, hx]
  · have e : l = l.take k ++ x :: l.drop (k + 1) := by
      have hk := (List.getElem?_eq_some_iff.1 h).1
      have hx2 := (List.getElem?_eq_some_iff.1 h).2
      rw [← hx2, ← List.drop_eq_getElem_cons hk, List.take_append_drop]
    rw [e, prErr_append, if_pos h0, prErr, if_neg hx]
theorem prBlks_take {l : List Pr} {k : Nat} {x : Pr} (h : l[k]? = some x) : prBlks (l.take (k + 1)) = prBlks (l.take k) ++ prB x := by
  rw [List.take_add_one, h, prBlks, List.flatMap_append]; simp [prBlks]
theorem prB_may (p : Pr) : ∀ b ∈ prB p, chkS b = 0 ∧ b.2.2 = 1 := fun b hb => ⟨(ofS_may b hb).1, (ofS_may b hb).2.1⟩
theorem prB_sz (p : Pr) : ∀ b ∈ prB p, b.1.size ≤ 12 ∧ b.2.1.size ≤ 12 := by
  intro b hb
  have hb0 := hb
  unfold prB ofS at hb
  split at hb
  · rename_i hg
    obtain ⟨r, hr, rfl⟩ := List.mem_map.1 hb
    obtain ⟨hr1, hr2⟩ := List.mem_filter.1 hr
    have hgood := rows_good hg r hr1
    obtain ⟨e1, e2, _⟩ := row_texts hgood
    simp only [Bool.and_eq_true, Bool.not_eq_true', longB, decide_eq_false_iff_not] at hr2
    have l1 := encL_size (stA r)
    have l2 := encL_size (stB r)
    have s1 : (blkOf r).1.size = (readA r).length := by
      show (mkB (readA r)).data.size = _
      rw [← Array.length_toList, mkB_data]
    have s2 : (blkOf r).2.1.size = (readB r).length := by
      show (mkB (readB r)).data.size = _
      rw [← Array.length_toList, mkB_data]
    rw [s1, s2, e1, e2]
    omega
  · simp at hb
theorem prB_len (p : Pr) : (prB p).length ≤ 64 := by
  unfold prB
  by_cases h : tokErr2 p.1.data.toList p.2.data.toList = 0
  · have h1 := ofS_count (stepsS p.1.data.toList p.2.data.toList)
    obtain ⟨_, _, _, f4, _⟩ := steps_facts _ _ h
    obtain ⟨t1, t2⟩ := tokErr2_parts h
    have r1 := tok_len t1
    have r2 := tok_len t2
    have h3 := levR_max (tokRunes p.1.data.toList).reverse (tokRunes p.2.data.toList).reverse
    have h4 : distS p.1.data.toList p.2.data.toList = levR (tokRunes p.1.data.toList).reverse (tokRunes p.2.data.toList).reverse := by rw [distS, if_pos h]
    simp only [List.length_reverse] at h3
    omega
  · have e : stepsS p.1.data.toList p.2.data.toList = [] := by rw [stepsS, if_neg h]
    have h1 := ofS_count ([] : List St)
    have h2 : stC ([] : List St) = 0 := rfl
    rw [e]
    omega
theorem prBlks_may (l : List Pr) : chkAll (prBlks l) = 0 := chkAll_zero.2 (fun b hb => by
  obtain ⟨p, _, hp⟩ := List.mem_flatMap.1 hb
  exact (prB_may p b hp).1)
theorem prBlks_sz (l : List Pr) : ∀ b ∈ prBlks l, b.1.size ≤ 12 ∧ b.2.1.size ≤ 12 := fun b hb => by
  obtain ⟨p, _, hp⟩ := List.mem_flatMap.1 hb
  exact prB_sz p b hp
theorem prBlks_len (l : List Pr) : (prBlks l).length ≤ l.length * 64 := by
  induction l with
  | nil => simp [prBlks]
  | cons p l ih =>
    have h1 := prB_len p
    show (prB p ++ prBlks l).length ≤ _
    rw [List.length_append, List.length_cons]
    omega
/-- Each pair that is reached has texts no longer than so much. -/
def prSz (l : List Pr) : Prop := ∀ i p, l[i]? = some p → prErr (l.take i) = 0 → p.1.size ≤ 2000000 ∧ p.2.size ≤ 2000000

set_option maxRecDepth 100000 in
set_option maxHeartbeats 8000000 in
theorem refPairs_any (u : Value) (l : List Pr) (w : World) (hu : PRuns w u l) (hl : l.length ≤ 100) (hz : prSz l) :
    Calls Tryd.prog 24 #[u] w fun e w' => ∃ v, e = .returned (.tuple #[v, .int .i64 (parE l)]) ∧ BRuns w' v (parS l) ∧ Below w.heap.size w w' := by
  obtain ⟨A, c, e⟩ := hu.slice
  subst e
  have HU := Lib.hid hu; clear hu
  have ct := fun v w hv hl => refTable_any v (prBlks l) w hv hl (fun b hb => by have := prBlks_sz l b hb; omega)
  obtain ⟨n, hn⟩ : ∃ n, l.length = n := ⟨_, rfl⟩
  have hE : parE l = if prErr l = 0 then tabE (prBlks l) else prErr l := by rw [parE, if_neg (by omega)]
  have hS : parS l = if prErr l = 0 then tabS (prBlks l) else [] := by
    rw [parS, hE]
    by_cases h : prErr l = 0
    · rw [if_pos h, if_pos h]; rfl
    · rw [if_neg h, if_neg h, if_neg h]
  obtain ⟨R, hR⟩ : ∃ z, parE l = z := ⟨_, rfl⟩
  obtain ⟨X, hX⟩ : ∃ z, parS l = z := ⟨_, rfl⟩
  rw [hR] at hE ⊢
  rw [hX] at hS ⊢
  rw [hn] at hl HU ⊢
  have HE := Lib.hid hE; have HS := Lib.hid hS; have HN := Lib.hid hn; have HZ := Lib.hid hz; have CT := Lib.hid ct
  clear hE hS hn hz hR hX ct
  have CP : Hid (∀ (s t : ByteArray) (w : World), s.size ≤ 2000000 → t.size ≤ 2000000 → Calls Tryd.prog 40 #[.string s, .string t] w fun e w' => ∃ v, e = .returned (.tuple #[v, .int .i64 (prE (s, t))]) ∧ BRuns w' v (prB (s, t)) ∧ Below w.heap.size w w') := Lib.hid (fun s t w h1 h2 => refPair_any s t w (by omega) (by omega))
  have BL := Lib.hid (fun k => prBlks_len (l.take k))
  go_enter Tryd.func24, Tryd.ntmps24
  go_wp2
  go_loopw [4, 14] (fun s4 s14 wr => ∃ k : Nat, k ≤ n ∧ s14 = .int .i64 k ∧ Hid (prErr (l.take k) = 0) ∧ Hid (wr.ownsRow w.heap.size 43 3 s4 (prBlks (l.take k)).length (gCells blkCell (prBlks (l.take k)))) ∧ Hid (Below w.heap.size w wr)) (fun _ s14 _ => n - (RowKit.intOf s14).toNat)
  case atStart => exact ⟨0, Nat.zero_le _, rfl, Lib.hid rfl, Lib.hid (World.ownsRow_nil _ _ _ _), Lib.hid (Below.refl _ _)⟩
  case round =>
    obtain ⟨k, hkn, rfl, HC, HO, BW⟩ := hrel
    by_cases hk : k < n
    · have k1 : (k : Int) < (n : Int) := by omega
      obtain ⟨⟨p1, p2⟩, hp⟩ : ∃ p, l[k]? = some p := ⟨_, List.getElem?_eq_getElem (by rw [HN.out]; exact hk)⟩
      obtain ⟨b, o, rfl, _, hc⟩ := (HU.out.below BW.out).cells HN.out (by omega)
      obtain ⟨g0, g1⟩ := pr_cells hc hp
      simp only at g0 g1
      have hz1 := HZ.out k _ hp HC.out
      simp only at hz1
      have hch := prErr_take k _ hp HC.out
      have hbt := prBlks_take hp
      have hbl := BL.out k
      rw [List.length_take, HN.out] at hbl
      have hpl := prB_len (p1, p2)
      obtain ⟨er, her⟩ : ∃ z, prE (p1, p2) = z := ⟨_, rfl⟩
      obtain ⟨Y, hY⟩ : ∃ z, prB (p1, p2) = z := ⟨_, rfl⟩
      obtain ⟨Q, hQ⟩ : ∃ z, prBlks (l.take k) = z := ⟨_, rfl⟩
      rw [her] at hch
      rw [hY] at hbt hpl
      rw [hQ] at hbt hbl HO
      have hal : Hid (Below w.heap.size w (wr.alloc (.cells #[.string p1, .string p2] 38))) := Lib.hid (BW.out.alloc BW.out.size _)
      have oal := HO.out.alloc (.cells #[.string p1, .string p2] 38)
      have c5 := CP.out p1 p2 (wr.alloc (.cells #[.string p1, .string p2] 38)) hz1.1 hz1.2
      rw [her, hY] at c5
      have CC := Lib.hid c5; have HCH := Lib.hid hch; have HBT := Lib.hid hbt; have OAL := Lib.hid oal
      clear hc hp hch c5 her hY hQ hbt oal HO
      go_wp2_with fail
      refine CC.out.mono ?_
      rintro e w5 ⟨v, rfl, r5, b5⟩
      obtain ⟨A5, c5, e5⟩ := r5.slice
      subst e5
      have O5 := own_below OAL.out b5
      have B5 : Below w.heap.size w w5 := hal.out.trans (b5.mono hal.out.size)
      by_cases h0 : er = 0
      · subst h0
        obtain ⟨v6, w6, hrun, o6, g6, a6⟩ := append_many (P := Tryd.prog) blk_ln blk_one info_blk rfl (by decide) (by decide) Tryd.underlying22 w5 w.heap.size _ _ _ O5 _ Y r5 B5.size (by omega)
        have b6 : Below w.heap.size w w6 := B5.grown g6 B5.size (fun k hk => (O5.lt k hk).1)
        have HRUN := Lib.hid hrun
        have hend : Hid (prErr (l.take (k + 1)) = 0 ∧ w6.ownsRow w.heap.size 43 3 v6 (prBlks (l.take (k + 1))).length (gCells blkCell (prBlks (l.take (k + 1)))) ∧ Below w.heap.size w w6) := Lib.hid ⟨HCH.out.1 (by first | rfl | trivial), by rw [HBT.out, List.length_append, gCells_append]; exact o6, b6⟩
        clear hrun o6 g6 a6 b6 O5 B5 r5 b5 hbl hpl
        go_wp2_with (first
          | (at_builtin; refine wpList_append_run (.tmp 29) (.tmp 30) 22 _ _ _ _ HRUN.out rfl rfl rfl rfl ?_)
          | go_in)
        exact ⟨⟨k + 1, by omega, by go_num, Lib.hid hend.out.1, Lib.hid hend.out.2.1, Lib.hid hend.out.2.2⟩, by simp [RowKit.intOf]; omega⟩
      · have h0' : (er == 0) = false := by simpa using h0
        have hr : Hid (R = er ∧ X = []) := Lib.hid (by
          have e1 := HCH.out.2 h0
          exact ⟨by rw [HE.out, e1, if_neg h0], by rw [HS.out, e1, if_neg h0]⟩)
        have BB := Lib.hid B5
        clear O5 B5 r5 b5
        go_wp2
        go_ret2
        exact ⟨_, by rw [hr.out.1]; rfl, by rw [hr.out.2]; exact GRuns.nil_ _ _ _, BB.out⟩
    · obtain rfl : k = n := by omega
      have h0 := HC.out
      have ho := HO.out
      rw [List.take_of_length_le (by rw [HN.out]; exact Nat.le_refl _)] at h0 ho
      have hr : Hid (R = tabE (prBlks l) ∧ X = tabS (prBlks l)) := Lib.hid ⟨by rw [HE.out, if_pos h0], by rw [HS.out, if_pos h0]⟩
      have gr := GRuns.of_own blk_ln rfl ho
      obtain ⟨A4, c4, e4⟩ := gr.slice
      have hbl := BL.out k
      rw [List.take_of_length_le (by rw [HN.out]; exact Nat.le_refl _), HN.out] at hbl
      have c9 := CT.out _ wr gr (by omega)
      obtain ⟨z, hz'⟩ : ∃ z, (prBlks l).length = z := ⟨_, rfl⟩
      rw [hz'] at e4
      subst e4
      obtain ⟨R', hR'⟩ : ∃ z, tabE (prBlks l) = z := ⟨_, rfl⟩
      obtain ⟨X', hX'⟩ : ∃ z, tabS (prBlks l) = z := ⟨_, rfl⟩
      rw [hR', hX'] at hr c9
      have C9 := Lib.hid c9
      clear c9 h0 ho gr hbl hz' hR' hX' HC HO
      go_wp2_with fail
      refine C9.out.mono ?_
      rintro e w6 ⟨x, rfl, r6, b6⟩
      obtain ⟨A6, c6, e6⟩ := r6.slice
      subst e6
      have R6 := Lib.hid r6
      have B6 := Lib.hid (BW.out.trans (b6.mono BW.out.size)); clear b6 r6
      go_wp2
      go_ret2
      exact ⟨_, by rw [hr.out.1]; rfl, by rw [hr.out.2]; exact R6.out, B6.out⟩
end Go.Proofs.YtmfmbmlfdlebfaaDoor

/- count.Pairs: the table of all blocks of pairs. -/
namespace Go.Proofs.YtmfmbmlfdlebfaaDoor
open Go.RowKit Go.Shelf
set_option linter.unusedSimpArgs false
set_option linter.unusedVariables false

theorem okN_prB (p : Pr) : okN (prB p) := fun b hb => by have := (prB_may p b hb).2; omega

set_option maxRecDepth 100000 in
set_option maxHeartbeats 8000000 in
theorem pairs_any (u : Value) (l : List Pr) (w : World) (hO : Okw w) (hu : PRuns w u l) (hl : l.length ≤ 1000) (hz : prSz l) :
    Calls Tryd.prog 23 #[u] w fun e w' => ∃ v, e = .returned (.tuple #[v, .int .i64 (parE l)]) ∧ BRuns w' v (parS l) ∧ Below w.heap.size w w' := by
  obtain ⟨A, c, e⟩ := hu.slice
  subst e
  have HU := Lib.hid hu; have HOK := Lib.hid hO; clear hu hO
  obtain ⟨n, hn⟩ : ∃ n, l.length = n := ⟨_, rfl⟩
  have hE : parE l = if prErr l = 0 then (if manyB (prBlks l) then 6 else 0) else prErr l := by
    rw [parE, if_neg (by omega)]
    by_cases h : prErr l = 0
    · rw [if_pos h, if_pos h]; exact (tabE_many (prBlks_may l)).1
    · rw [if_neg h, if_neg h]
  have hS : parS l = if prErr l = 0 then (if manyB (prBlks l) then [] else gat (prBlks l)) else [] := by
    rw [parS, hE]
    by_cases h : prErr l = 0
    · rw [if_pos h, if_pos h]
      cases manyB (prBlks l) <;> simp
    · rw [if_neg h, if_neg h, if_neg h]
  obtain ⟨R, hR⟩ : ∃ z, parE l = z := ⟨_, rfl⟩
  obtain ⟨X, hX⟩ : ∃ z, parS l = z := ⟨_, rfl⟩
  rw [hR] at hE ⊢
  rw [hX] at hS ⊢
  rw [hn] at hl HU ⊢
  have HE := Lib.hid hE; have HS := Lib.hid hS; have HN := Lib.hid hn; have HZ := Lib.hid hz
  clear hE hS hn hz hR hX
  have CP : Hid (∀ (s t : ByteArray) (w : World), Okw w → s.size ≤ 2000000 → t.size ≤ 2000000 → Calls Tryd.prog 25 #[.string s, .string t] w fun e w' => ∃ v, e = .returned (.tuple #[v, .int .i64 (prE (s, t))]) ∧ BRuns w' v (prB (s, t)) ∧ Below w.heap.size w w') := Lib.hid (fun s t w hO h1 h2 => pair_at s t (by omega) (by omega) w hO)
  have CN := Lib.hid newTally_any
  obtain ⟨base, hbs⟩ : ∃ z, w.heap.size = z := ⟨_, rfl⟩
  have HBS := Lib.hid hbs
  have hnl : ¬ (65536 : Int) < (n : Int) := by omega
  go_enter Tryd.func23, Tryd.ntmps23
  go_wp2_with fail
  refine (CN.out _).mono ?_
  rintro e w2 ⟨rfl, t2, b2⟩
  rw [hbs] at t2 b2 ⊢
  have T2 := Lib.hid t2; have B2 := Lib.hid b2
  clear t2 b2 hbs
  go_wp2
  go_loopw [17] (fun s17 wr => ∃ k : Nat, k ≤ n ∧ s17 = .int .i64 k ∧ Hid (prErr (l.take k) = 0) ∧ Hid (Tal wr base (base + 1) base (prBlks (l.take k))) ∧ Hid (Below base w wr)) (fun s17 _ => n - (RowKit.intOf s17).toNat)
  case atStart => exact ⟨0, Nat.zero_le _, rfl, Lib.hid rfl, T2, B2⟩
  case round =>
    obtain ⟨k, hkn, rfl, HC, HT, BW⟩ := hrel
    have hbw : base ≤ wr.heap.size := by rw [← HBS.out]; exact BW.out.size
    have BB : Hid (Below w.heap.size w wr) := Lib.hid (by rw [HBS.out]; exact BW.out)
    by_cases hk : k < n
    · have k1 : (k : Int) < (n : Int) := by omega
      obtain ⟨⟨p1, p2⟩, hp⟩ : ∃ p, l[k]? = some p := ⟨_, List.getElem?_eq_getElem (by rw [HN.out]; exact hk)⟩
      obtain ⟨b, o, rfl, _, hc⟩ := (HU.out.below BB.out).cells HN.out (by omega)
      obtain ⟨g0, g1⟩ := pr_cells hc hp
      simp only at g0 g1
      have hz1 := HZ.out k _ hp HC.out
      simp only at hz1
      have hch := prErr_take k _ hp HC.out
      have hbt := prBlks_take hp
      have hpl := prB_len (p1, p2)
      have hok := okN_prB (p1, p2)
      have hsz := prB_sz (p1, p2)
      have hoq : posN (prBlks (l.take k)) := posN_of (prBlks_may _)
      obtain ⟨er, her⟩ : ∃ z, prE (p1, p2) = z := ⟨_, rfl⟩
      obtain ⟨Y, hY⟩ : ∃ z, prB (p1, p2) = z := ⟨_, rfl⟩
      obtain ⟨Q, hQ⟩ : ∃ z, prBlks (l.take k) = z := ⟨_, rfl⟩
      rw [her] at hch
      rw [hY] at hbt hpl hok hsz
      rw [hQ] at hbt HT hoq
      have hal : Below wr.heap.size wr (wr.alloc (.cells #[.string p1, .string p2] 38)) := (Below.refl _ _).alloc (Nat.le_refl _) _
      have c5 := CP.out p1 p2 (wr.alloc (.cells #[.string p1, .string p2] 38)) (HOK.out.below (BB.out.trans (hal.mono BB.out.size))) hz1.1 hz1.2
      rw [her, hY] at c5
      have CC := Lib.hid c5; have HCH := Lib.hid hch; have HBT := Lib.hid hbt; have HAL := Lib.hid hal; have OK := Lib.hid hok; have SZ := Lib.hid hsz; have OQ := Lib.hid hoq
      clear hc hp hch c5 her hY hQ hbt hal hok hsz hoq
      go_wp2_with fail
      refine CC.out.mono ?_
      rintro e w5 ⟨v, rfl, r5, b5⟩
      obtain ⟨A5, c5, e5⟩ := r5.slice
      subst e5
      have ba := HAL.out.trans (b5.mono HAL.out.size)
      have T5 := Lib.hid (HT.out.kept ba)
      have B5 : Hid (Below base w w5) := Lib.hid (BW.out.trans (ba.mono hbw))
      have hb5 : base ≤ w5.heap.size := Nat.le_trans hbw ba.size
      clear ba b5
      by_cases h0 : er = 0
      · subst h0
        obtain ⟨m, hm⟩ : ∃ m, Y.length = m := ⟨_, rfl⟩
        rw [hm] at hpl r5 ⊢
        have HM := Lib.hid hm; have R5 := Lib.hid r5
        clear hm r5
        go_wp2
        go_loopw [34] (fun s34 wr' => ∃ j : Nat, j ≤ m ∧ s34 = .int .i64 j ∧ Hid (Tal wr' base (base + 1) base (Q ++ Y.take j)) ∧ Hid (BRuns wr' (.slice A5 m c5) Y) ∧ Hid (Below base w wr')) (fun s34 _ => m - (RowKit.intOf s34).toNat)
        case atStart => exact ⟨0, Nat.zero_le _, rfl, Lib.hid (by simpa using T5.out), R5, B5⟩
        case round =>
          obtain ⟨j, hjm, rfl, HTj, RJ, BJ⟩ := hrel
          clear T5 B5 R5 HT BW hbw BB
          have hbj : base ≤ wr.heap.size := by rw [← HBS.out]; exact BJ.out.size
          by_cases hj : j < m
          · have j1 : (j : Int) < (m : Int) := by omega
            obtain ⟨⟨q1, q2, q3⟩, hq⟩ : ∃ p, Y[j]? = some p := ⟨_, List.getElem?_eq_getElem (by rw [HM.out]; exact hj)⟩
            obtain ⟨b', o', rfl, _, hc⟩ := RJ.out.cells HM.out (by omega)
            obtain ⟨f0, f1, f2⟩ := blk_cells hc hq
            simp only at f0 f1 f2
            have hN1 := OK.out _ (List.mem_of_getElem? hq)
            have hS1 := SZ.out _ (List.mem_of_getElem? hq)
            simp only at hN1 hS1
            have hal : Below wr.heap.size wr (wr.alloc (.cells #[.string q1, .string q2, .int .i64 q3] 43)) := (Below.refl _ _).alloc (Nat.le_refl _) _
            have BA : Hid (Below base w (wr.alloc (.cells #[.string q1, .string q2, .int .i64 q3] 43))) := Lib.hid (BJ.out.trans (hal.mono hbj))
            have TA := HTj.out.kept hal
            have RA := RJ.out.below hal
            have cad := add_any (base + 1) base base (Q ++ Y.take j) (q1, q2, q3) (wr.alloc (.cells #[.string q1, .string q2, .int .i64 q3] 43)) TA (by simp; omega)
              (fun z hz => by
                rcases List.mem_append.1 hz with h | h
                · exact OQ.out z h
                · exact (OK.out z (List.mem_of_mem_take h)).1) hN1.1 hN1.2 (by simp only; omega) (by simp only; omega)
            rw [List.append_assoc, ← take_snoc hq] at cad
            simp only at cad
            have CAD := Lib.hid cad; have TA' := Lib.hid TA; have RA' := Lib.hid RA
            clear hc hq hal cad TA RA
            go_wp2_with fail
            refine CAD.out.mono ?_
            rintro e w6 ⟨rfl, t6, b6, n6⟩
            have T6 := Lib.hid t6
            have R6 := Lib.hid (TA'.out.runs n6 RA'.out)
            have B6 : Hid (Below base w w6) := Lib.hid (BA.out.trans b6)
            clear t6 b6 n6
            go_wp2
            exact ⟨⟨j + 1, by omega, by go_num, T6, R6, B6⟩, by simp [RowKit.intOf]; omega⟩
          · obtain rfl : j = m := by omega
            have ht := HTj.out
            rw [List.take_of_length_le (by rw [HM.out]; exact Nat.le_refl _), ← HBT.out] at ht
            have TF := Lib.hid ht
            clear ht
            go_wp2
            exact ⟨⟨k + 1, by omega, by go_num, Lib.hid (HCH.out.1 (by first | rfl | trivial)), TF, BJ⟩, by simp [RowKit.intOf]; omega⟩
      · have h0' : (er == 0) = false := by simpa using h0
        have hr : Hid (R = er ∧ X = []) := Lib.hid (by
          have e1 := HCH.out.2 h0
          exact ⟨by rw [HE.out, e1, if_neg h0], by rw [HS.out, e1, if_neg h0]⟩)
        have BE : Hid (Below w.heap.size w w5) := Lib.hid (by rw [HBS.out]; exact B5.out)
        clear r5
        go_wp2
        go_ret2
        exact ⟨_, by rw [hr.out.1]; rfl, by rw [hr.out.2]; exact GRuns.nil_ _ _ _, BE.out⟩
    · obtain rfl : k = n := by omega
      have h0 := HC.out
      have ht := HT.out
      rw [List.take_of_length_le (by rw [HN.out]; exact Nat.le_refl _)] at h0 ht
      have hr : Hid (R = (if manyB (prBlks l) then 6 else 0) ∧ X = (if manyB (prBlks l) then [] else gat (prBlks l))) := Lib.hid ⟨by rw [HE.out, if_pos h0], by rw [HS.out, if_pos h0]⟩
      have ct := tally_table_any (base + 1) base base (prBlks l) wr ht (posN_of (prBlks_may l)) (fun b hb => by have := prBlks_sz l b hb; omega)
      rw [← hr.out.1, ← hr.out.2] at ct
      have CT := Lib.hid ct
      clear ct h0 ht HC HT
      go_wp2_with fail
      refine CT.out.mono ?_
      rintro e w5 ⟨v, rfl, r5, b5⟩
      obtain ⟨A5, c5, e5⟩ := r5.slice
      subst e5
      have R5 := Lib.hid r5
      have B5 : Hid (Below w.heap.size w w5) := Lib.hid (BB.out.trans (b5.mono BB.out.size))
      clear r5 b5
      go_wp2
      go_ret2
      exact ⟨_, rfl, R5.out, B5.out⟩
end Go.Proofs.YtmfmbmlfdlebfaaDoor

