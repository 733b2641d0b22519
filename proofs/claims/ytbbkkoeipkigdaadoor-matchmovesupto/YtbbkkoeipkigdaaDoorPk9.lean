/- Texts that several proofs of this seat share, one behind the other: QIs MFroms MLay MRules MNew. -/
import Derived.Test.YtbbkkoeipkigdaaDoorPk8
import Derived.Test.YtbbkkoeipkigdaaDoorPk4
import Derived.Test.YtbbkkoeipkigdaaDoorPk6
import Derived.Test.YtbbkkoeipkigdaaDoorPk3
import Derived.Test.YtbbkkoeipkigdaaDoorPk2
/- rule.Is, Find: whether rules are normal; what a rule costs. -/
namespace Go.Proofs.YtbbkkoeipkigdaaDoor
open Go.RowKit Go.Shelf Go.Lib
open Go.Sort (grow)
set_option linter.unusedSimpArgs false
set_option linter.unusedVariables false

theorem rless_any (a b c d : ByteArray) (N M : Int) (w : World) :
    Calls Tryd.prog 50 #[.agg #[.string a, .string b, .int .i64 N], .agg #[.string c, .string d, .int .i64 M]] w fun e w' => e = .returned (.bool (lessB (a, b, N) (c, d, M))) ∧ Below w.heap.size w w' :=
  (rless_lays a b c d N M w).mono fun e w' ⟨h1, q, os, h2⟩ => ⟨h1, by rw [h2]; exact below_grows _ _ _⟩

set_option maxRecDepth 100000 in
set_option maxHeartbeats 8000000 in
theorem ris_any (u : Value) (l : List Blk) (w : World) (hO : Okw w) (hu : BRuns w u l) (hl : l.length ≤ 2000000) (hz : szL l) :
    Calls Tryd.prog 26 #[u] w fun e w' => e = .returned (.int .i64 (risS l)) ∧ Below w.heap.size w w' := by
  have ca := reach_any u l w hO hu hl hz
  obtain ⟨A, c, e⟩ := hu.slice
  subst e
  have HU := Lib.hid hu; clear hu
  obtain ⟨n, hn⟩ : ∃ n, l.length = n := ⟨_, rfl⟩
  have hT : risS l = if rall l = 0 then (if ordB l then (if 4096 < n then 6 else 0) else 7) else rall l := by rw [risS, hn]
  obtain ⟨res, hres⟩ : ∃ r, risS l = r := ⟨_, rfl⟩
  rw [hres] at hT ⊢
  have HT := Lib.hid hT; clear hT hres
  rw [hn] at hl HU ca ⊢
  have HN := Lib.hid hn; clear hn hz
  have CL := Lib.hid rless_any
  obtain ⟨ra, hra⟩ : ∃ z, rall l = z := ⟨_, rfl⟩
  rw [hra] at ca
  have HRA := Lib.hid hra; have CA := Lib.hid ca
  clear hra ca
  have hmix : Tryd.prog.follows .mixedOrders = true := by kernel_rfl
  go_enter Tryd.func26, Tryd.ntmps26
  go_wp2_with fail
  refine CA.out.mono ?_
  rintro e w1 ⟨rfl, b1⟩
  have BW := Lib.hid b1; clear b1
  by_cases h00 : ra = 0
  · subst h00
    have HC0 : Hid (rall l = 0) := Lib.hid HRA.out
    go_wp2
    go_loopw [4] (fun s4 wr' => ∃ j : Nat, 1 ≤ j ∧ (j ≤ n ∨ j = 1) ∧ s4 = .int .i64 j ∧ Hid (ordB (l.take j) = true) ∧ Hid (Below w.heap.size w wr')) (fun s4 _ => n - (RowKit.intOf s4).toNat)
    case atStart => exact ⟨1, Nat.le_refl _, .inr rfl, rfl, Lib.hid (ordB_one l), BW⟩
    case round =>
      obtain ⟨j, hj1, hjk, rfl, HO, BW2⟩ := hrel
      by_cases hj : j < n
      · have j1 : (j : Int) < (n : Int) := by omega
        obtain ⟨i, hi⟩ : ∃ i : Nat, (j : Int) - 1 = (i : Int) := ⟨j - 1, by omega⟩
        have ei : j = i + 1 := by omega
        have EI := Lib.hid ei
        obtain ⟨⟨y1, y2, y3⟩, hy⟩ : ∃ p, l[i]? = some p := ⟨_, List.getElem?_eq_getElem (by rw [HN.out]; omega)⟩
        obtain ⟨⟨x1, x2, x3⟩, hx⟩ : ∃ p, l[j]? = some p := ⟨_, List.getElem?_eq_getElem (by rw [HN.out]; omega)⟩
        have RW := Lib.hid (HU.out.below BW2.out)
        obtain ⟨b, o, rfl, hblt, hc⟩ := RW.out.cells HN.out (by omega)
        obtain ⟨g0, g1, g2⟩ := blk_cells hc hy
        obtain ⟨g3, g4, g5⟩ := blk_cells hc hx
        simp only at g0 g1 g2 g3 g4 g5
        have hor := ordB_take i (y1, y2, y3) (x1, x2, x3) hy (by rw [← ei]; exact hx) (by rw [← ei]; exact HO.out)
        have c5 := fun w => CL.out y1 y2 x1 x2 y3 x3 w
        obtain ⟨le, hle⟩ : ∃ z, lessB (y1, y2, y3) (x1, x2, x3) = z := ⟨_, rfl⟩
        simp only [hle] at c5 hor
        have HOR := Lib.hid hor; have C := Lib.hid c5
        clear hc hy hx hor c5 hle ei HO
        have i0 : (0 : Int) < (j : Int) := by omega
        have i1 : (i : Int) < (n : Int) := by omega
        have hwr : IntKind.i64.wrap ((j : Int) - 1) = (i : Int) := by rw [IntKind.wrap_i64]; omega
        have hwi : IntKind.i64.wrap (i : Int) = (i : Int) := by rw [IntKind.wrap_i64]; omega
        have i2 : (0 : Int) ≤ (i : Int) := by omega
        have KD : Hid (KRow w b (o + i * 3) (o + j * 3) (y1, y2, y3) (x1, x2, x3) wr.drew) := Lib.hid ⟨g0, g1, g2, g3, g4, g5, hblt, BW2.out.drew⟩
        go_wp2
        go_region_held3 (fun w' => w'.cell? ⟨b, o + i * 3, none⟩ = some (.string y1) ∧ w'.cell? ⟨b, o + i * 3 + 1, none⟩ = some (.string y2) ∧ w'.cell? ⟨b, o + i * 3 + 2, none⟩ = some (.int .i64 y3) ∧ w'.cell? ⟨b, o + j * 3, none⟩ = some (.string x1) ∧ w'.cell? ⟨b, o + j * 3 + 1, none⟩ = some (.string x2) ∧ w'.cell? ⟨b, o + j * 3 + 2, none⟩ = some (.int .i64 x3) ∧ Hid (KRow w b (o + i * 3) (o + j * 3) (y1, y2, y3) (x1, x2, x3) w'))
          (first | exact ⟨g0, g1, g2, g3, g4, g5, KD⟩ | exact ⟨HKn.out.a0, HKn.out.a1, HKn.out.a2, HKn.out.b0, HKn.out.b1, HKn.out.b2, HKn⟩ | go_keep)
          (first
            | (go_at_call 50; refine (C.out _).mono ?_; rintro e w4 ⟨rfl, hb4⟩; have HKn := Lib.hid ((by assumption : Hid (KRow w b (o + i * 3) (o + j * 3) (y1, y2, y3) (x1, x2, x3) _)).out.step hb4); clear hb4))
        rename_i hHeld
        clear hHeld
        have B4 : Hid (Below w.heap.size w w4) := Lib.hid HKn.out.bel
        cases le
        · have hr : Hid (res = 7) := Lib.hid (by rw [HT.out, if_pos HC0.out, if_neg (by rw [HOR.out.2 rfl]; simp)])
          go_wp2
          go_ret
          exact ⟨by rw [hr.out]; rfl, B4.out⟩
        · go_wp2
          exact ⟨⟨j + 1, by omega, .inl (by omega), by go_num, Lib.hid (by have := HOR.out.1 rfl; rwa [← EI.out] at this), B4⟩, by simp [RowKit.intOf]; omega⟩
      · have j1 : ¬ (j : Int) < (n : Int) := by omega
        have HO0 : Hid (ordB l = true) := Lib.hid (by have := HO.out; rwa [List.take_of_length_le (by rw [HN.out]; omega)] at this)
        clear HO BW
        by_cases hbig : 4096 < n
        · have hb1 : (4096 : Int) < (n : Int) := by omega
          have hr : Hid (res = 6) := Lib.hid (by rw [HT.out, if_pos HC0.out, if_pos HO0.out, if_pos hbig])
          go_wp2
          go_ret
          exact ⟨by rw [hr.out]; rfl, BW2.out⟩
        · have hb1 : ¬ (4096 : Int) < (n : Int) := by omega
          have hr : Hid (res = 0) := Lib.hid (by rw [HT.out, if_pos HC0.out, if_pos HO0.out, if_neg hbig])
          go_wp2
          go_ret
          exact ⟨by rw [hr.out]; rfl, BW2.out⟩
  · have h00' : (ra == 0) = false := by simpa using h00
    have hr : Hid (res = ra) := Lib.hid (by rw [HT.out, HRA.out, if_neg h00])
    go_wp2
    go_ret
    exact ⟨by rw [hr.out]; rfl, BW.out⟩

end Go.Proofs.YtbbkkoeipkigdaaDoor

/- match.froms: the runes of each rule's From, in rows of the call's own. -/
namespace Go.Proofs.YtbbkkoeipkigdaaDoor
open Go.RowKit Go.Shelf
set_option linter.unusedSimpArgs false
set_option linter.unusedVariables false

theorem own_keep {w w' : World} {base : Nat} {e : TypeId} {size n : Nat} {v : Value} {xs : List Value} (h : w.ownsRow base e size v n xs) (hk : ∀ g, v.ownBlock = some g → w'.heap[g]? = w.heap[g]?) : w'.ownsRow base e size v n xs := by
  obtain ⟨hl, hv⟩ := h
  rcases hv with ⟨rfl, h0⟩ | ⟨g, cap, cur, rfl, hb, hg, rest⟩
  · exact ⟨hl, .inl ⟨rfl, h0⟩⟩
  · exact ⟨hl, .inr ⟨g, cap, cur, rfl, hb, (hk g rfl).trans hg, rest⟩⟩
theorem own_base {w : World} {b b' : Nat} {e : TypeId} {size n : Nat} {v : Value} {xs : List Value} (h : w.ownsRow b e size v n xs) (hb : b' ≤ b) : w.ownsRow b' e size v n xs := by
  obtain ⟨hl, hv⟩ := h
  rcases hv with ⟨rfl, h0⟩ | ⟨g, cap, cur, rfl, h1, rest⟩
  · exact ⟨hl, .inl ⟨rfl, h0⟩⟩
  · exact ⟨hl, .inr ⟨g, cap, cur, rfl, Nat.le_trans hb h1, rest⟩⟩
theorem info_s32 : (Tryd.prog.info? 46).map (fun i => (i.zero, i.size, i.bytes)) = some (some (.slice none 0 0), 1, 24) := by kernel_rfl
/-- Rows of runes in a row, all of the call's own. -/
structure FOwn (w : World) (b0 : Nat) (v : Value) (vals : List Value) (F : List (List Int)) : Prop where
  row : w.ownsRow b0 46 1 v vals.length vals
  len : vals.length = F.length
  each : ∀ (j : Nat) u f, vals[j]? = some u → F[j]? = some f → w.ownsRow b0 21 1 u f.length (f.map (Value.int .i32))
theorem FOwn.keep {w w' : World} {b0 : Nat} {v : Value} {vals : List Value} {F : List (List Int)} (h : FOwn w b0 v vals F) (hk : ∀ g, b0 ≤ g → g < w.heap.size → w'.heap[g]? = w.heap[g]?) : FOwn w' b0 v vals F :=
  ⟨own_keep h.row (fun g hg => hk g (own_block h.row g hg) (own_lt' h.row g hg)), h.len, fun j u f hu hf => own_keep (h.each j u f hu hf) (fun g hg => hk g (own_block (h.each j u f hu hf) g hg) (own_lt' (h.each j u f hu hf) g hg))⟩
def oneCell1 (u : { u : Value // u.oneCell' = true }) : List Value := [u.1]
theorem own_one {w : World} {b0 : Nat} {e : TypeId} {size n : Nat} {v : Value} {xs : List Value} (h : w.ownsRow b0 e size v n xs) : v.oneCell' = true := by
  rcases h.2 with ⟨rfl, _⟩ | ⟨g, cap, cur, rfl, _⟩ <;> rfl
/-- append(some, from). -/
theorem FOwn.push {w : World} {b0 : Nat} {v u : Value} {vals : List Value} {F : List (List Int)} {f : List Int} (h : FOwn w b0 v vals F) (hb : b0 ≤ w.heap.size) (hl : vals.length ≤ 1000000) (hu : w.ownsRow b0 21 1 u f.length (f.map (Value.int .i32))) :
    ∃ v' w', (Builtin.append_ #[70, 70] 70 #[v, .slice (some ⟨w.heap.size, 0, none⟩) 1 1]).run Tryd.prog (w.alloc (.cells #[u] 46)) = .ok v' w' ∧ FOwn w' b0 v' (vals ++ [u]) (F ++ [f]) ∧ Below b0 w w' := by
  obtain ⟨v', w', hrun, hown, hg, hob⟩ := append_one (P := Tryd.prog) (enc := oneCell1) (k := 1) (fun _ => rfl) (fun x z hz => by simp [oneCell1] at hz; subst hz; exact x.2) info_s32 rfl (by decide) (by decide) Tryd.underlying70 w b0 v vals.length vals h.row ⟨u, own_one hu⟩ hb (by omega)
  have hg1 : w.grownBy w' v.ownBlock := (World.grownBy_alloc _ _ _).trans hg
  refine ⟨v', w', hrun, ⟨by simpa [oneCell1] using hown, by simp [h.len], fun j x y hx hy => ?_⟩, (Below.refl b0 w).grown hg1 hb (own_block h.row)⟩
  have hkeep : ∀ {x : Value} {y : List Int}, w.ownsRow b0 21 1 x y.length (y.map (Value.int .i32)) → w'.ownsRow b0 21 1 x y.length (y.map (Value.int .i32)) := fun ho => ho.kept hg1 (own_apart ho h.row (by decide))
  rw [List.getElem?_append] at hx hy
  rw [← h.len] at hy
  split at hx
  · rename_i hlt
    rw [if_pos hlt] at hy
    exact hkeep (h.each j x y hx hy)
  · rename_i hlt
    rw [if_neg hlt] at hy
    have e : j - vals.length = 0 := by
      cases hq : j - vals.length with
      | zero => rfl
      | succ q => rw [hq] at hx; simp at hx
    rw [e] at hx hy
    simp at hx hy
    subst hx hy
    exact hkeep hu
theorem make_froms (w : World) (c : Nat) (hc : c ≤ 2000000) : ∃ w', (Instr.makeSlice 70 (.int .i64 0) (.int .i64 (c : Int))).run Tryd.prog w = .ok (.slice (some ⟨w.heap.size, 0, none⟩) 0 c) w' ∧
    w'.ownsRow w.heap.size 46 1 (.slice (some ⟨w.heap.size, 0, none⟩) 0 c) 0 [] ∧ w.grownBy w' none := by
  obtain ⟨i0, hi, hz0, hz1, hz2⟩ := info_parts info_s32
  exact run_make_own w w.heap.size 70 46 i0 _ 1 Tryd.underlying70 hi hz0 hz1 .i64 .i64 c (by rw [hz2]; omega) (by unfold maxLen; omega) (Nat.le_refl _)

set_option maxRecDepth 100000 in
set_option maxHeartbeats 8000000 in
theorem froms_any (u : Value) (L : List Blk) (w : World) (hO : Okw w) (hu : BRuns w u L) (hl : L.length ≤ 4096) (hz : szL L) (hv : ∀ b ∈ L, Lib.validD b.1.data.toList = true) :
    Calls Tryd.prog 28 #[u] w fun e w' => ∃ v vals, e = .returned v ∧ FOwn w' w.heap.size v vals (frs L) ∧ Below w.heap.size w w' := by
  obtain ⟨A, c, e⟩ := hu.slice
  subst e
  obtain ⟨n, hn⟩ : ∃ n, L.length = n := ⟨_, rfl⟩
  rw [hn] at hl hu ⊢
  obtain ⟨wm, hmk, hown0, hgr0⟩ := make_froms w n (by omega)
  have hb0 : Below w.heap.size w wm := (Below.refl _ _).grown hgr0 (Nat.le_refl _) (fun k hk => by cases hk)
  have HU := Lib.hid hu; have HN := Lib.hid hn; have HZ := Lib.hid hz; have HV := Lib.hid hv; have BM := Lib.hid hb0; have HOK := Lib.hid hO
  have HF0 : Hid (FOwn wm w.heap.size (.slice (some ⟨w.heap.size, 0, none⟩) 0 n) [] []) := Lib.hid ⟨hown0, rfl, fun j x y hx => by simp at hx⟩
  clear hu hn hz hv hb0 hown0 hgr0 hO
  go_enter Tryd.func28, Tryd.ntmps28
  go_wp2
  clear hmk
  go_loopw [3, 13] (fun s3 s13 wr => ∃ (k : Nat) (vals : List Value), k ≤ n ∧ s13 = .int .i64 k ∧ vals.length = k ∧ Hid (FOwn wr w.heap.size s3 vals ((frs L).take k)) ∧ Hid (Below w.heap.size w wr)) (fun _ s13 _ => n - (RowKit.intOf s13).toNat)
  case atStart => exact ⟨0, [], Nat.zero_le _, rfl, rfl, HF0, BM⟩
  case round =>
    clear HF0 BM
    obtain ⟨k, vals, hkn, rfl, hvl, HF, BW⟩ := hrel
    by_cases hk : k < n
    · have k1 : (k : Int) < (n : Int) := by omega
      obtain ⟨⟨p1, p2, p3⟩, hp⟩ : ∃ p, L[k]? = some p := ⟨_, List.getElem?_eq_getElem (by rw [HN.out]; exact hk)⟩
      obtain ⟨b, o, rfl, _, hc⟩ := (HU.out.below BW.out).cells HN.out (by omega)
      obtain ⟨g0, g1, g2⟩ := blk_cells hc hp
      simp only at g0 g1 g2
      have hz1 := HZ.out _ (List.mem_of_getElem? hp)
      have hv1 := HV.out _ (List.mem_of_getElem? hp)
      simp only at hz1 hv1
      have hst : (frs L).take (k + 1) = (frs L).take k ++ [items p1.data.toList] := by rw [List.take_add_one, frs_at hp]; simp
      have HST := Lib.hid hst
      have hal : Below wr.heap.size wr (wr.alloc (.cells #[.string p1, .string p2, .int .i64 p3] 55)) := (Below.refl _ _).alloc (Nat.le_refl _) _
      obtain ⟨wa, hwa⟩ : ∃ z, wr.alloc (.cells #[.string p1, .string p2, .int .i64 p3] 55) = z := ⟨_, rfl⟩
      have x0 : wa.cell? ⟨wr.heap.size, 0, none⟩ = some (.string p1) := by rw [← hwa, cell_of_row _ _ _ _ _ _ (heap_alloc_new wr _)]; rfl
      rw [hwa] at hal
      obtain ⟨s3, hs3⟩ : ∃ z, u3 = z := ⟨_, rfl⟩
      have BA := Lib.hid (BW.out.trans (hal.mono BW.out.size))
      have okA : Okw wa := HOK.out.below BA.out
      have cd := decode_any p1 wa (by omega) okA.1 okA.2
      have CD := Lib.hid cd
      have HFA : Hid (FOwn wa w.heap.size u3 vals ((frs L).take k)) := Lib.hid (HF.out.keep (fun g _ hlt => hal.block g hlt))
      have HWA := Lib.hid hwa
      have HAL := Lib.hid hal
      have hle : w.heap.size ≤ wa.heap.size := BA.out.size
      obtain ⟨bx, hbx⟩ : ∃ z, wr.heap.size = z := ⟨_, rfl⟩
      rw [hbx] at x0
      have HBX := Lib.hid hbx
      clear hc hp hst cd hwa hal okA hbx HF
      go_wp2_with fail
      rw [HWA.out, HBX.out]
      refine CD.out.mono ?_
      rintro e w5 ⟨v5, rfl, ho5, hb5⟩
      simp only [hv1, if_true] at ho5 ⊢
      obtain ⟨A5, c5, e5, _⟩ := Runs.of_own ho5
      obtain ⟨q5, hq5⟩ : ∃ z, (items p1.data.toList).length = z := ⟨_, rfl⟩
      rw [hq5] at e5
      subst e5
      clear hq5
      have HF5 : Hid (FOwn w5 w.heap.size u3 vals ((frs L).take k)) := Lib.hid (HFA.out.keep (fun g _ hlt => hb5.block g hlt))
      have B5 := Lib.hid (BA.out.trans (hb5.mono BA.out.size))
      obtain ⟨v6, w6, hrun6, hF6, hb6⟩ := HF5.out.push B5.out.size (by omega) (own_base ho5 hle)
      have H6 := Lib.hid hrun6
      have HF6 : Hid (FOwn w6 w.heap.size v6 (vals ++ [.slice A5 q5 c5]) ((frs L).take (k + 1))) := Lib.hid (by rw [HST.out]; exact hF6)
      have B6 := Lib.hid (B5.out.trans hb6)
      clear hrun6 hF6 hb6 ho5 hb5 CD
      go_wp2_with (at_builtin; refine wpList_append_run (.tmp 23) (.tmp 25) 70 _ _ _ _ H6.out rfl rfl rfl rfl ?_)
      exact ⟨⟨k + 1, vals ++ [.slice A5 q5 c5], by omega, by go_num, by simp [hvl], HF6, B6⟩, by simp [RowKit.intOf]; omega⟩
    · obtain rfl : k = n := by omega
      have HE : Hid ((frs L).take k = frs L) := Lib.hid (by rw [List.take_of_length_le (by rw [frs_len, HN.out]; exact Nat.le_refl _)])
      go_wp2
      go_ret
      exact ⟨_, vals, rfl, by rw [← HE.out]; exact HF.out, BW.out⟩
end Go.Proofs.YtbbkkoeipkigdaaDoor

/- match's grow: the states of all beginnings, the shorter ones first. -/
namespace Go.Proofs.YtbbkkoeipkigdaaDoor
open Go.RowKit Go.Shelf
set_option linter.unusedSimpArgs false
set_option linter.unusedVariables false

/-- An element of a row of the call's own. -/
theorem own_cell8 {w : World} {base : Nat} {e : TypeId} {size g cap n : Nat} {xs : List Value} (h : w.ownsRow base e size (.slice (some ⟨g, 0, none⟩) n cap) n xs) (j : Nat) (hj : j < n * size) (u : Value) (hu : xs[j]? = some u) : w.cell? ⟨g, j, none⟩ = some u := by
  rcases h.2 with ⟨h0, _⟩ | ⟨g', cap', cur, e1, hb, hg, h1, h2, h3, h4⟩
  · cases h0
  · simp only [Value.slice.injEq, Option.some.injEq, Addr.mk.injEq] at e1
    obtain ⟨⟨rfl, _⟩, _, rfl⟩ := e1
    rw [cell_of_row w g j cur e (0, 0) hg]
    rw [← h4, List.getElem?_take, if_pos hj] at hu
    simpa using hu
/-- A call of a Go function of three arguments, as one step of a region that draws its order. -/
theorem step_call3 {P : Program} {ops : Array Oper} {o : Oper} {a : Act} {w : World} {K : Act → World → Prop} {Q : Exit → Act → World → Prop} {E : Prop} (hgd : o.guard = none) (f : Nat) (x y z : Operand) (t t' t'' : TypeId) (hop : o.op = .call { callee := .value (.func f), args := #[x, y, z], argTypes := #[t, t', t''] })
    (eg : ∀ args w, (callFunc f args).run P w = .ok (.enter f args) w) {u u' u'' : Value} (hx : a.eval x = u) (hy : a.eval y = u') (hz : a.eval z = u'') {Post : Ending → World → Prop} (hc : Calls P f #[u, u', u''] w Post) (h : ∀ e w', Post e w' → ∃ v, e = .returned v ∧ K (a.put o.dst v) w') :
    if Region.wanted o (yielded ops a.tmps) = true then Oper.wp P o a w K Q else E := by
  have hw : Region.wanted o (yielded ops a.tmps) = true := by simp [Region.wanted, hgd]
  rw [if_pos hw]
  unfold Oper.wp
  have he : (execOp a.eval o).run P w = .ok (.enter f #[u, u', u'']) w := by
    have hf : a.eval (.func f) = .func (.func f) #[] #[] := rfl
    simp [execOp, hop, resolve, invoke, Deferred.ofValue, hf, hx, hy, hz, eg, Result.andThen]
  rw [he, Oper.upon_enter]
  refine hc.mono ?_
  intro e w' hp
  obtain ⟨v, rfl, hk⟩ := h e w' hp
  exact hk

/-- While it is laid: so many runes of each row, of the first rows one more. -/
structure GI (w wr : World) (p mp gw : Nat) (F : List (List Int)) (k i : Nat) : Prop where
  ex : ∃ mv T wh, Grw wr w.heap.size p mp mv T ∧ Lv F k i T ∧ RowN wr gw wh ∧ wh.length = F.length ∧ (∀ (j : Nat) f, F[j]? = some f → ∃ n, wh[j]? = some n ∧ T[n]? = some (f.take (if j < i then k + 1 else k))) ∧ T.length ≤ 1 + k * F.length + i
  low : ∀ m, m < w.heap.size → m ≠ p → m ≠ mp → wr.heap[m]? = w.heap[m]?
  size : w.heap.size < wr.heap.size
  hgw : w.heap.size ≤ gw
  bel : Below 0 w wr
theorem GI.fown {w wr : World} {p mp gw k i b0 : Nat} {F : List (List Int)} (h : GI w wr p mp gw F k i) {v : Value} {vals : List Value} (hF : FOwn w b0 v vals F) (hp : p < b0) (hm : mp < b0) : FOwn wr b0 v vals F :=
  hF.keep (fun g hg hlt => h.low g hlt (by omega) (by omega))
theorem rown_apart {w : World} {gw : Nat} {wh : List Nat} (h : RowN w gw wh) {base size n : Nat} {v : Value} {xs : List Value} (ho : w.ownsRow base 65 size v n xs) : v.ownBlock ≠ some gw := by
  intro e
  rcases ho.2 with ⟨rfl, _⟩ | ⟨g, cap, cur, rfl, _, hg, _⟩
  · cases e
  · have e2 : g = gw := by simpa [Value.ownBlock] using e
    subst e2
    have h' : w.heap[g]? = some (.cells (cellsN wh) 3 (0, 0)) := h
    rw [hg] at h'
    simp at h'
/-- A row that has ended adds nothing. -/
theorem GI.skip {w wr : World} {p mp gw k i : Nat} {F : List (List Int)} (h : GI w wr p mp gw F k i) {f : List Int} (hf : F[i]? = some f) (hk : ¬ k < f.length) : GI w wr p mp gw F k (i + 1) := by
  obtain ⟨mv, T, wh, h1, h2, h3, h4, h5, h6⟩ := h.ex
  refine ⟨⟨mv, T, wh, h1, h2.skip hf hk, h3, h4, fun j g hg => ?_, by omega⟩, h.low, h.size, h.hgw, h.bel⟩
  obtain ⟨n, hn, ht⟩ := h5 j g hg
  refine ⟨n, hn, ?_⟩
  rw [ht]
  by_cases hj : j = i
  · subst hj
    rw [hf] at hg
    obtain rfl := Option.some.inj hg
    rw [if_neg (by omega), if_pos (by omega), List.take_of_length_le (by omega), List.take_of_length_le (by omega)]
  · by_cases h7 : j < i
    · rw [if_pos h7, if_pos (by omega)]
    · rw [if_neg h7, if_neg (by omega)]
theorem GI.turn {w wr : World} {p mp gw k i : Nat} {F : List (List Int)} (h : GI w wr p mp gw F k i) (hi : i = F.length) : GI w wr p mp gw F (k + 1) 0 := by
  obtain ⟨mv, T, wh, h1, h2, h3, h4, h5, h6⟩ := h.ex
  refine ⟨⟨mv, T, wh, h1, h2.next (by omega), h3, h4, fun j g hg => ?_, ?_⟩, h.low, h.size, h.hgw, h.bel⟩
  · obtain ⟨n, hn, ht⟩ := h5 j g hg
    have hlt := (List.getElem?_eq_some_iff.1 hg).1
    rw [if_pos (by omega)] at ht
    exact ⟨n, hn, by rw [if_neg (by omega)]; exact ht⟩
  · subst hi
    rw [Nat.succ_mul]
    omega
/-- A state more, and the row's number turned. -/
theorem GI.more {w wr w5 : World} {p mp gw k i m n : Nat} {mv mv5 : Value} {F T T5 : List (List Int)} {wh : List Nat} (h : GI w wr p mp gw F k i) (h1 : Grw wr w.heap.size p mp mv T) (h2 : Lv F k i T) (h3 : RowN wr gw wh) (h4 : wh.length = F.length)
    (h5 : ∀ (j : Nat) f, F[j]? = some f → ∃ n, wh[j]? = some n ∧ T[n]? = some (f.take (if j < i then k + 1 else k))) (h6 : T.length ≤ 1 + k * F.length + i) {f : List Int} (hf : F[i]? = some f) (hk : k < f.length) {r : Int} (hr : f[k]? = some r)
    (g1 : Grw w5 w.heap.size p mp mv5 T5) (g2 : T5[m]? = some (f.take k ++ [r])) (g3 : ∀ u, u ∈ T5 ↔ u ∈ T ∨ u = f.take k ++ [r]) (g4 : ∀ (j : Nat) u, T[j]? = some u → T5[j]? = some u) (g5 : T5.length ≤ T.length + 1) (g6 : OnlyM mv.ownBlock p mp wr w5) :
    GI w (w5.setCell ⟨gw, i, none⟩ (.int .i64 (m : Int))) p mp gw F k (i + 1) ∧ w5.cell? ⟨gw, i, none⟩ = some (.int .i64 ((wh.getD i 0 : Nat) : Int)) ∧ w5.frozen? ⟨gw, i, none⟩ = false := by
  have hlo := h1.lo
  have hgw := h.hgw
  have hkb : f.take k ++ [r] = f.take (k + 1) := by rw [List.take_add_one, hr]; rfl
  have hrow5 : RowN w5 gw wh := (g6.2 gw h3.lt (by omega) (by omega) (rown_apart h3 h1.own)).trans h3
  have hi := (List.getElem?_eq_some_iff.1 hf).1
  have hsz : (w5.setCell ⟨gw, i, none⟩ (.int .i64 (m : Int))).heap.size = w5.heap.size := by
    show (w5.heap.modify _ _).size = _
    rw [Array.size_modify]
  have hother : ∀ b, b ≠ gw → (w5.setCell ⟨gw, i, none⟩ (.int .i64 (m : Int))).heap[b]? = w5.heap[b]? := fun b hb => Below.heap_setCell w5 ⟨gw, i, none⟩ _ b hb
  refine ⟨⟨⟨mv5, T5, wh.set i m, ?_, ?_, hrow5.set i m, by simpa using h4, fun j g hg => ?_, by omega⟩, fun b hb hb1 hb2 => ?_, by rw [hsz]; exact Nat.lt_of_lt_of_le h.size g6.1.size, hgw, (h.bel.trans g6.1).setCell (p := ⟨gw, i, none⟩) (Nat.zero_le _) _⟩, hrow5.cell i (by omega), hrow5.frozen i⟩
  · refine ⟨g1.ok, g1.len, g1.ne, g1.lo, (hother p (by omega)).trans g1.row, own_keep g1.own (fun b hb => hother b (fun e => rown_apart hrow5 g1.own (by rw [hb, e]))), ?_⟩
    obtain ⟨D, hD, hV⟩ := g1.map
    obtain ⟨es, clock, hx, rest⟩ := hD
    exact ⟨D, ⟨es, clock, (hother mp (by omega)).trans hx, rest⟩, hV⟩
  · exact h2.more hf (fun s => by rw [g3 s, hkb])
  · by_cases hj : j = i
    · subst hj
      rw [hf] at hg
      obtain rfl := Option.some.inj hg
      refine ⟨m, by rw [List.getElem?_set_self (by omega)], ?_⟩
      rw [if_pos (by omega), g2, hkb]
    · obtain ⟨n', hn', ht⟩ := h5 j g hg
      refine ⟨n', by rw [List.getElem?_set_ne (Ne.symm hj)]; exact hn', ?_⟩
      rw [g4 _ _ ht]
      by_cases h7 : j < i
      · rw [if_pos h7, if_pos (by omega)]
      · rw [if_neg h7, if_neg (by omega)]
  · have hne : mv.ownBlock ≠ some b := fun e => by
      have := own_block h1.own b e
      omega
    rw [hother b (by omega), g6.2 b (Nat.lt_trans hb h.size) hb1 hb2 hne]
    exact h.low b hb hb1 hb2
theorem rune_wf {x : Int} (h : Lib.validRune x = true) : (Lit.int .i32 x).wf = true := by
  have := rune_i32 h
  simp [Lit.wf, IntKind.min, IntKind.max, IntKind.signed, IntKind.bits]
  omega

set_option maxRecDepth 100000 in
set_option maxHeartbeats 8000000 in
theorem grow_any (w : World) (p mp b0 : Nat) (v : Value) (vals : List Value) (F : List (List Int)) (hG : Grw w w.heap.size p mp (.slice none 0 0) [[]]) (hp : p < b0) (hm : mp < b0) (hF : FOwn w b0 v vals F) (hN : F.length ≤ 4096) (h3 : ∀ f ∈ F, f.length ≤ 3 ∧ ∀ x ∈ f, Lib.validRune x = true) :
    Calls Tryd.prog 27 #[.pointer (some ⟨p, 0, none⟩), v] w fun e w' => ∃ gw, e = .returned (.slice (some ⟨gw, 0, none⟩) F.length F.length) ∧ GI w w' p mp gw F 3 0 := by
  obtain ⟨n, hn⟩ : ∃ n, F.length = n := ⟨_, rfl⟩
  obtain ⟨A, c, hv⟩ : ∃ A c, v = .slice A n c := by
    have h := hF.row
    rw [hF.len, hn] at h
    rcases h.2 with ⟨rfl, h0⟩ | ⟨g, cap, cur, rfl, _⟩
    · exact ⟨none, 0, by rw [h0]⟩
    · exact ⟨_, cap, rfl⟩
  subst hv
  have hmk := make_ints w n (by omega)
  have hba : Below w.heap.size w (w.alloc (.cells (cellsN (List.replicate n 0)) 3)) := (Below.refl _ _).alloc (Nat.le_refl _) _
  have h0 : Hid (GI w (w.alloc (.cells (cellsN (List.replicate n 0)) 3)) p mp w.heap.size F 0 0) := Lib.hid ⟨⟨_, [[]], List.replicate n 0, hG.moved hba, Lv.start F, heap_alloc_new w _, by simp [hn], fun j f hj => ⟨0, by
      have := (List.getElem?_eq_some_iff.1 hj).1
      rw [List.getElem?_replicate, if_pos (by omega)], by simp⟩, by simp⟩, fun m hm _ _ => hba.block m hm, by simp, Nat.le_refl _, hba.mono (Nat.zero_le _)⟩
  obtain ⟨gw, hgw⟩ : ∃ z, w.heap.size = z := ⟨_, rfl⟩
  have HF := Lib.hid hF; have HN := Lib.hid hn; have H3 := Lib.hid h3
  rw [hn] at hN ⊢
  clear hba hF hn h3 hG
  have eg : ∀ (args : Array Value) (w : World), (callFunc 51 args).run Tryd.prog w = .ok (.enter 51 args) w := enters_of Tryd.func51 (by kernel_rfl) rfl
  go_enter Tryd.func27, Tryd.ntmps27
  go_wp2
  rw [hgw] at h0
  have HGW := Lib.hid hgw
  clear hmk hgw
  go_loopw [12] (fun s12 wr => ∃ k : Nat, k ≤ 3 ∧ s12 = .int .i64 k ∧ Hid (GI w wr p mp gw F k 0)) (fun s12 _ => 3 - (RowKit.intOf s12).toNat)
  case atStart => exact ⟨0, Nat.zero_le _, rfl, h0⟩
  case round =>
    clear h0
    obtain ⟨k, hk3, rfl, HI⟩ := hrel
    by_cases hk : k < 3
    · have k1 : (k : Int) < 3 := by omega
      go_wp2
      go_loopw [17] (fun s17 wr => ∃ i : Nat, i ≤ n ∧ s17 = .int .i64 i ∧ Hid (GI w wr p mp gw F k i)) (fun s17 _ => n - (RowKit.intOf s17).toNat)
      case atStart => exact ⟨0, Nat.zero_le _, rfl, HI⟩
      case round =>
        clear HI
        obtain ⟨i, hin, rfl, HI⟩ := hrel
        by_cases hi : i < n
        · have i1 : (i : Int) < (n : Int) := by omega
          have hfo := HI.out.fown HF.out hp hm
          obtain ⟨f, hf⟩ : ∃ f, F[i]? = some f := ⟨_, List.getElem?_eq_getElem (by rw [HN.out]; exact hi)⟩
          obtain ⟨u, hu⟩ : ∃ u, vals[i]? = some u := ⟨_, List.getElem?_eq_getElem (by rw [HF.out.len, HN.out]; exact hi)⟩
          have hrf := Runs.of_own (hfo.each i u f hu hf)
          obtain ⟨h31, h32⟩ := H3.out f (List.mem_of_getElem? hf)
          obtain ⟨A', c', e', _, _, hx⟩ := hrf
          obtain ⟨q, hq⟩ : ∃ q, f.length = q := ⟨_, rfl⟩
          rw [hq] at e' hx h31
          subst e'
          have hrow := hfo.row
          rw [HF.out.len, HN.out] at hrow
          obtain ⟨b, rfl⟩ : ∃ b, A = some ⟨b, 0, none⟩ := by
            rcases hrow.2 with ⟨e, h0⟩ | ⟨g, cap, cur, e, _⟩
            · omega
            · exact ⟨g, (Value.slice.inj e).1⟩
          have g0 := own_cell8 hrow i (by omega) _ hu
          have HQ := Lib.hid hq; have HFF := Lib.hid hf; have H32 := Lib.hid h32
          clear hfo hu hf hq hrow h32
          by_cases hkq : k < q
          · have k2 : (k : Int) < (q : Int) := by omega
            obtain ⟨b', o', rfl, _, hcc⟩ := hx (by omega)
            have g1 := hcc k hkq
            obtain ⟨r, hr⟩ : ∃ r, f.getD k 0 = r := ⟨_, rfl⟩
            rw [hr] at g1
            have hr2 : f[k]? = some r := by
              rw [List.getD_eq_getElem?_getD, List.getElem?_eq_getElem (by rw [HQ.out]; exact hkq)] at hr
              rw [List.getElem?_eq_getElem (by rw [HQ.out]; exact hkq)]
              simpa using hr
            have hwf := rune_wf (H32.out r (List.mem_of_getElem? hr2))
            obtain ⟨mv, T, wh, t1, t2, t3, t4, t5, t6⟩ := HI.out.ex
            obtain ⟨nn, hnn, htn⟩ := t5 i f HFF.out
            rw [if_neg (by omega)] at htn
            have hlt := (List.getElem?_eq_some_iff.1 hnn).1
            have g2 := t3.cell i hlt
            have hgd : wh.getD i 0 = nn := by rw [List.getD_eq_getElem?_getD, hnn]; rfl
            rw [hgd] at g2
            have hfl : (f.take k).length = k := by rw [List.length_take, HQ.out]; omega
            have hTl : T.length ≤ 800000 := by
              have h7 : k * F.length ≤ 3 * 4096 := Nat.mul_le_mul (by omega) (by rw [HN.out]; exact hN)
              omega
            have cc := child_any wr.drew w.heap.size p mp nn mv T (t1.moved (Below.refl _ wr).drew) (Nat.le_of_lt HI.out.size) hTl (f.take k) r htn hwf (fun u hu => by rw [hfl]; exact t2.len hu) (by rw [hfl]; omega)
            have CC := Lib.hid cc
            have HMORE := Lib.hid (fun w5 mv5 T5 m => HI.out.more (w5 := w5) (mv5 := mv5) (T5 := T5) (m := m) (n := nn) t1 t2 t3 t4 t5 t6 HFF.out (by rw [HQ.out]; exact hkq) hr2)
            clear hx hcc hr hr2 hwf t1 t2 t3 t4 t5 t6 hnn htn hlt hgd hfl hTl cc
            go_wp2_with fail
            go_region_law ((refine step_call3 rfl 51 (.tmp 28) (.tmp 32) (.tmp 36) 25 3 21 rfl eg (by go_simp) (by go_simp) (by go_simp) CC.out ?_; rintro e w5 ⟨m5, mv5, T5, rfl, q1, q2, q3, q4, q5, q6, _⟩; refine ⟨_, rfl, ?_⟩; obtain ⟨z1, z2, z3⟩ := HMORE.out w5 mv5 T5 m5 q1 q2 q3 q4 q5 ((OnlyM.of_below (Below.refl _ wr).drew).trans q6); have Z1 := Lib.hid z1; clear z1 q1 q2 q3 q4 q5 q6))
            all_goals
              go_wp2
              exact ⟨⟨i + 1, by omega, by go_num, Z1⟩, by simp [RowKit.intOf]; omega⟩
          · have k2 : ¬ (k : Int) < (q : Int) := by omega
            have HS := Lib.hid (HI.out.skip HFF.out (by rw [HQ.out]; exact hkq))
            clear hx
            go_wp2
            exact ⟨⟨i + 1, by omega, by go_num, HS⟩, by simp [RowKit.intOf]; omega⟩
        · obtain rfl : i = n := by omega
          have HT := Lib.hid (HI.out.turn HN.out.symm)
          go_wp2
          exact ⟨⟨k + 1, by omega, by go_num, HT⟩, by simp [RowKit.intOf]; omega⟩
    · obtain rfl : k = 3 := by omega
      go_wp2
      go_ret
      exact ⟨gw, rfl, HI.out⟩
end Go.Proofs.YtbbkkoeipkigdaaDoor

/- The rules of each state, in rows of their own; match.New. -/
namespace Go.Proofs.YtbbkkoeipkigdaaDoor
open Go.RowKit Go.Shelf
set_option linter.unusedSimpArgs false
set_option linter.unusedVariables false

/-- A machine whose states' rules are rows of their own, from b3 on. -/
structure Mch (w : World) (b3 p : Nat) (A : Option Addr) (c g mp : Nat) (T : List (List Int)) (vals : List Value) (Xs : List (List Nat)) : Prop where
  ok : TreeOk T
  len : T.length ≤ 1000000
  more : w.cell? ⟨p, 3, none⟩ = some (.slice A (T.length - 1) c)
  cap : T.length - 1 ≤ c ∧ c ≤ maxLen
  adr : 1 < T.length → A = some ⟨g, 0, none⟩
  nx : w.cell? ⟨p, 4, none⟩ = some (.map (some mp))
  st : ∀ (n : Nat) (s : List Int), T[n]? = some s → w.cell? (adM p g n 0) = some (.int .i64 (s.length : Nat)) ∧ w.cell? (adM p g n 1) = some (.int .i64 (numT T (failP (inT T) s) : Nat))
  map : ∃ n D, EdgMap w mp n D ∧ ViewE D T
  rl : ∀ (n : Nat) v, vals[n]? = some v → w.cell? (adM p g n 2) = some v ∧ w.frozen? (adM p g n 2) = false
  lv : vals.length = T.length
  lx : Xs.length = T.length
  own : ∀ (n : Nat) v X, vals[n]? = some v → Xs[n]? = some X → w.ownsRow b3 3 1 v X.length (gCells numCell X)
  apart : ∀ (j k : Nat) v v', j ≠ k → vals[j]? = some v → vals[k]? = some v' → v.ownBlock = none ∨ v.ownBlock ≠ v'.ownBlock
  lo : p < b3 ∧ mp < b3 ∧ g < b3
  ne : mp ≠ p ∧ (1 < T.length → g ≠ p ∧ g ≠ mp)
theorem adM_ne {p g m n j k : Nat} (hg : m ≠ 0 ∨ n ≠ 0 → g ≠ p) (hj : j < 3) (hk : k < 3) (h : m ≠ n ∨ j ≠ k) : adM p g m j ≠ adM p g n k := by
  unfold adM
  intro e
  by_cases hm : m = 0
  · by_cases hn : n = 0
    · rw [if_pos hm, if_pos hn] at e
      have := congrArg Addr.off e
      simp only at this
      omega
    · rw [if_pos hm, if_neg hn] at e
      exact hg (.inr hn) (congrArg Addr.block e).symm
  · by_cases hn : n = 0
    · rw [if_neg hm, if_pos hn] at e
      exact hg (.inl hm) (congrArg Addr.block e)
    · rw [if_neg hm, if_neg hn] at e
      have := congrArg Addr.off e
      simp only at this
      omega
theorem adM_p3 {p g n k : Nat} (hg : n ≠ 0 → g ≠ p) (hk : k = 3 ∨ k = 4) : (⟨p, k, none⟩ : Addr) ≠ adM p g n 2 := by
  unfold adM
  intro e
  by_cases hn : n = 0
  · rw [if_pos hn] at e
    have := congrArg Addr.off e
    simp only at this
    omega
  · rw [if_neg hn] at e
    exact hg hn (congrArg Addr.block e).symm
theorem adM_block {p g n j : Nat} : (adM p g n j).block = p ∨ (n ≠ 0 ∧ (adM p g n j).block = g) := by
  unfold adM
  by_cases hn : n = 0
  · rw [if_pos hn]; exact .inl rfl
  · rw [if_neg hn]; exact .inr ⟨hn, rfl⟩
theorem num_one (x : Nat) : ∀ u ∈ numCell x, u.oneCell' = true := by
  intro u hu
  simp only [numCell, List.mem_cons, List.mem_nil_iff, or_false] at hu
  subst hu; rfl
theorem info_int8 : (Tryd.prog.info? 3).map (fun i => (i.zero, i.size, i.bytes)) = some (some (.int .i64 0), 1, 8) := by kernel_rfl
theorem Mch.add {w : World} {b3 p c g mp : Nat} {A : Option Addr} {T : List (List Int)} {vals : List Value} {Xs : List (List Nat)} (h : Mch w b3 p A c g mp T vals Xs) {n : Nat} {v : Value} {X : List Nat} (hv : vals[n]? = some v) (hX : Xs[n]? = some X) (hb : b3 ≤ w.heap.size) (hl : X.length ≤ 1000000) (i : Nat) :
    ∃ g' c' w', (Builtin.append_ #[38, 38] 38 #[v, .slice (some ⟨w.heap.size, 0, none⟩) 1 1]).run Tryd.prog (w.alloc (.cells #[.int .i64 (i : Int)] 3)) = .ok (.slice (some ⟨g', 0, none⟩) (X.length + 1) c') w' ∧
      w'.cell? (adM p g n 2) = some v ∧ w'.frozen? (adM p g n 2) = false ∧ Mch (w'.setCell (adM p g n 2) (.slice (some ⟨g', 0, none⟩) (X.length + 1) c')) b3 p A c g mp T (vals.set n (.slice (some ⟨g', 0, none⟩) (X.length + 1) c')) (Xs.set n (X ++ [i])) ∧
      (∀ k, k < b3 → k ≠ p → k ≠ g → (w'.setCell (adM p g n 2) (.slice (some ⟨g', 0, none⟩) (X.length + 1) c')).heap[k]? = w.heap[k]?) ∧ Below 0 w (w'.setCell (adM p g n 2) (.slice (some ⟨g', 0, none⟩) (X.length + 1) c')) := by
  have ho := h.own n v X hv hX
  obtain ⟨v', w', hrun, hown, hgr, hob⟩ := append_one (P := Tryd.prog) (enc := numCell) (k := 1) (fun _ => rfl) num_one info_int8 rfl (by decide) (by decide) Tryd.underlying38 w b3 v X.length (gCells numCell X) ho i hb (by omega)
  obtain ⟨g', c', rfl⟩ := ownsRow_succ hown
  have hg1 : w.grownBy w' v.ownBlock := (World.grownBy_alloc _ _ _).trans hgr
  have hlo := h.lo
  have hnl : n < T.length := by rw [← h.lv]; exact (List.getElem?_eq_some_iff.1 hv).1
  have hlow : ∀ k, k < b3 → w'.heap[k]? = w.heap[k]? := fun k hk => hg1.block k (by omega) (fun e => by have := own_block ho k e.symm; omega)
  have hgp : ∀ m, m < T.length → m ≠ 0 → g ≠ p := fun m hm h0 => (h.ne.2 (by omega)).1
  have hcl : ∀ (m j : Nat), w'.cell? (adM p g m j) = w.cell? (adM p g m j) := fun m j => World.cell?_of_block (hlow _ (by rcases @adM_block p g m j with e | ⟨_, e⟩ <;> rw [e] <;> omega))
  have hfr : w'.frozen? (adM p g n 2) = w.frozen? (adM p g n 2) := by
    have := hlow (adM p g n 2).block (by rcases @adM_block p g n 2 with e | ⟨_, e⟩ <;> rw [e] <;> omega)
    simp [World.frozen?, this]
  obtain ⟨hr1, hr2⟩ := h.rl n v hv
  have hsz : (w'.setCell (adM p g n 2) (.slice (some ⟨g', 0, none⟩) (X.length + 1) c')).heap.size = w'.heap.size := by
    show (w'.heap.modify _ _).size = _
    rw [Array.size_modify]
  obtain ⟨W, hW⟩ : ∃ W, w'.setCell (adM p g n 2) (.slice (some ⟨g', 0, none⟩) (X.length + 1) c') = W := ⟨_, rfl⟩
  have hWb : ∀ k, k ≠ (adM p g n 2).block → W.heap[k]? = w'.heap[k]? := fun k hk => by rw [← hW]; exact Below.heap_setCell w' _ _ k hk
  have hWc : ∀ a, a ≠ adM p g n 2 → W.cell? a = w'.cell? a := fun a ha => by rw [← hW]; exact World.cell?_setCell_other w' _ _ _ (Ne.symm ha)
  have hblk : (adM p g n 2).block < b3 := by rcases @adM_block p g n 2 with e | ⟨_, e⟩ <;> rw [e] <;> omega
  have hWo : ∀ {e : TypeId} {size q : Nat} {u : Value} {xs : List Value}, w'.ownsRow b3 e size u q xs → W.ownsRow b3 e size u q xs := fun ho' => own_keep ho' (fun b hb' => hWb b (by have := own_block ho' b hb'; omega))
  have hap : ∀ (m : Nat) u, m ≠ n → vals[m]? = some u → u.ownBlock = none ∨ u.ownBlock ≠ (some g' : Option Nat) := fun m u hm hu => by
    obtain ⟨Y, hY⟩ : ∃ Y, Xs[m]? = some Y := ⟨_, List.getElem?_eq_getElem (by rw [h.lx, ← h.lv]; exact (List.getElem?_eq_some_iff.1 hu).1)⟩
    rcases hob with e | e
    · rcases h.apart m n u v hm hu hv with h1 | h1
      · exact .inl h1
      · exact .inr (fun e2 => h1 (by rw [e2, ← e]; rfl))
    · have e3 : g' = w.heap.size + 1 := by simpa [Value.ownBlock] using e
      cases hub : u.ownBlock with
      | none => exact .inl rfl
      | some b =>
        right
        intro e2
        have := own_lt' (h.own m u Y hu hY) b hub
        have := Option.some.inj e2
        omega
  refine ⟨g', c', w', hrun, (hcl n 2).trans hr1, hfr.trans hr2, ?_, fun k hk h1 h2 => ?_, ((Below.refl 0 w).grown hg1 (Nat.zero_le _) (fun _ _ => Nat.zero_le _)).setCell (Nat.zero_le _) _⟩
  · rw [hW]
    refine ⟨h.ok, h.len, ?_, h.cap, h.adr, ?_, fun m s hs => ?_, ?_, fun m u hu => ?_, by simpa using h.lv, by simpa using h.lx, fun m u Y hu hY => ?_, fun j k u u' hjk hu hu' => ?_, h.lo, h.ne⟩
    · rw [hWc _ (adM_p3 (hgp n hnl) (.inl rfl)), World.cell?_of_block (hlow p hlo.1)]; exact h.more
    · rw [hWc _ (adM_p3 (hgp n hnl) (.inr rfl)), World.cell?_of_block (hlow p hlo.1)]; exact h.nx
    · have hml := (List.getElem?_eq_some_iff.1 hs).1
      have hgg : m ≠ 0 ∨ n ≠ 0 → g ≠ p := fun e => by
        rcases e with e | e
        · exact hgp m hml e
        · exact hgp n hnl e
      obtain ⟨a1, a2⟩ := h.st m s hs
      exact ⟨by rw [hWc _ (adM_ne hgg (by omega) (by omega) (.inr (by omega))), hcl]; exact a1, by rw [hWc _ (adM_ne hgg (by omega) (by omega) (.inr (by omega))), hcl]; exact a2⟩
    · obtain ⟨q, D, hD, hV⟩ := h.map
      obtain ⟨es, clock, hx, rest⟩ := hD
      refine ⟨q, D, ⟨es, clock, ?_, rest⟩, hV⟩
      rw [hWb mp, hlow mp hlo.2.1]
      · exact hx
      · rcases @adM_block p g n 2 with e | ⟨h0, e⟩
        · rw [e]; exact h.ne.1
        · rw [e]; exact fun e2 => (h.ne.2 (by omega)).2 e2.symm
    · by_cases hmn : m = n
      · subst hmn
        rw [List.getElem?_set_self (by rw [h.lv]; exact hnl)] at hu
        have := Option.some.inj hu
        subst this
        refine ⟨?_, ?_⟩
        · rw [← hW]; exact World.cell?_setCell_same' _ _ _ (by rw [hcl, hr1]; rfl)
        · rw [← hW, World.frozen?_setCell]; exact hfr.trans hr2
      · rw [List.getElem?_set_ne (fun e => hmn e.symm)] at hu
        have hml : m < T.length := by rw [← h.lv]; exact (List.getElem?_eq_some_iff.1 hu).1
        have hgg : m ≠ 0 ∨ n ≠ 0 → g ≠ p := fun e => by
          rcases e with e | e
          · exact hgp m hml e
          · exact hgp n hnl e
        obtain ⟨a1, a2⟩ := h.rl m u hu
        refine ⟨by rw [hWc _ (adM_ne hgg (by omega) (by omega) (.inl hmn)), hcl]; exact a1, ?_⟩
        rw [← hW, World.frozen?_setCell]
        have := hlow (adM p g m 2).block (by rcases @adM_block p g m 2 with e | ⟨_, e⟩ <;> rw [e] <;> omega)
        simpa [World.frozen?, this] using a2
    · by_cases hmn : m = n
      · subst hmn
        rw [List.getElem?_set_self (by rw [h.lv]; exact hnl)] at hu
        rw [List.getElem?_set_self (by rw [h.lx]; exact hnl)] at hY
        have e1 := Option.some.inj hu
        have e2 := Option.some.inj hY
        subst e1 e2
        have := hWo hown
        rw [gCells_snoc]
        simpa using this
      · rw [List.getElem?_set_ne (fun e => hmn e.symm)] at hu hY
        have ho2 := h.own m u Y hu hY
        exact hWo (ho2.kept hg1 (h.apart m n u v hmn hu hv))
    · by_cases hj : j = n
      · subst hj
        rw [List.getElem?_set_self (by rw [h.lv]; exact hnl)] at hu
        have e1 := Option.some.inj hu
        subst e1
        rw [List.getElem?_set_ne hjk] at hu'
        rcases hap k u' (Ne.symm hjk) hu' with e | e
        · right
          rw [e]
          simp [Value.ownBlock]
        · exact .inr (fun e2 => e e2.symm)
      · rw [List.getElem?_set_ne (fun e => hj e.symm)] at hu
        by_cases hk : k = n
        · subst hk
          rw [List.getElem?_set_self (by rw [h.lv]; exact hnl)] at hu'
          have e1 := Option.some.inj hu'
          subst e1
          exact hap j u hj hu
        · rw [List.getElem?_set_ne (fun e => hk e.symm)] at hu'
          exact h.apart j k u u' hjk hu hu'
  · rw [hW, hWb k, hlow k hk]
    rcases @adM_block p g n 2 with e | ⟨h0, e⟩ <;> rw [e] <;> assumption
end Go.Proofs.YtbbkkoeipkigdaaDoor

/- match.New: a machine of normal rules. -/
namespace Go.Proofs.YtbbkkoeipkigdaaDoor
open Go.RowKit Go.Shelf
set_option linter.unusedSimpArgs false
set_option linter.unusedVariables false

/-- A machine of rules lies at p. -/
def MachOk (w : World) (p : Nat) (L : List Blk) : Prop :=
  ∃ A c g mp T, MachR w p A c g mp T (idxP (frs L) (frs L).length) ∧ (∀ s, s ∈ T ↔ s ∈ metP (frs L))
theorem MachOk.below {w w' : World} {p : Nat} {L : List Blk} (h : MachOk w p L) (hb : Below w.heap.size w w') : MachOk w' p L := by
  obtain ⟨A, c, g, mp, T, h1, h2⟩ := h
  exact ⟨A, c, g, mp, T, h1.below hb, h2⟩
theorem frozen_of {w : World} {b j : Nat} {cs : Array Value} {t : TypeId} (h : w.heap[b]? = some (.cells cs t (0, 0))) : w.frozen? ⟨b, j, none⟩ = false := by
  simp [World.frozen?, h]
/-- A machine whose states are all laid: no state has rules yet. -/
theorem Grw.done_all {w : World} {b2 p mp : Nat} {mv : Value} {T : List (List Int)} (h : Grw w b2 p mp mv T) (hm : mp < w.heap.size) :
    ∃ A c g, (mv.ownBlock = some g ∨ g = p) ∧ Mch w w.heap.size p A c g mp T (List.replicate T.length (.slice none 0 0)) (List.replicate T.length []) := by
  have hl := h.len
  have hpos := h.ok.pos
  have hplt : p < w.heap.size := (Array.getElem?_eq_some_iff.1 h.row).1
  have hcell : ∀ j, w.cell? ⟨p, j, none⟩ = (#[.int .i64 0, .int .i64 0, .slice none 0 0, mv, .map (some mp)] : Array Value)[j]? := fun j => cell_of_row _ _ _ _ _ _ h.row
  have hfirst : numT T (failP (inT T) []) = 0 := numT_nil h.ok
  have key : ∀ (A : Option Addr) (c g : Nat), mv = .slice A (T.length - 1) c → T.length - 1 ≤ c → c ≤ maxLen → (1 < T.length → A = some ⟨g, 0, none⟩) → g < w.heap.size → (1 < T.length → b2 ≤ g ∧ ∀ j, w.frozen? ⟨g, j, none⟩ = false) → (∀ m s, T.tail[m]? = some s → ∀ j u, (stE T s)[j]? = some u → w.cell? ⟨g, m * 3 + j, none⟩ = some u) → Mch w w.heap.size p A c g mp T (List.replicate T.length (.slice none 0 0)) (List.replicate T.length []) := by
    intro A c g e h1 h2 hA hg hb hc
    subst e
    have hlo := h.lo
    have hst : ∀ (n : Nat) (s : List Int), T[n]? = some s → w.cell? (adM p g n 0) = some (.int .i64 (s.length : Nat)) ∧ w.cell? (adM p g n 1) = some (.int .i64 (numT T (failP (inT T) s) : Nat)) ∧ w.cell? (adM p g n 2) = some (.slice none 0 0) := by
      intro n s hs
      by_cases hn : n = 0
      · subst hn
        have := h.ok.zero hs
        subst this
        refine ⟨?_, ?_, ?_⟩
        · rw [adM_zero, hcell]; rfl
        · rw [adM_zero, hcell, hfirst]; rfl
        · rw [adM_zero, hcell]; rfl
      · obtain ⟨m, rfl⟩ : ∃ m, n = m + 1 := ⟨n - 1, by omega⟩
        have hs' : T.tail[m]? = some s := by
          rw [tree_form h.ok] at hs
          simpa using hs
        refine ⟨?_, ?_, ?_⟩
        · rw [adM_pos p g hn]; exact hc m s hs' 0 _ rfl
        · rw [adM_pos p g hn]; exact hc m s hs' 1 _ rfl
        · rw [adM_pos p g hn]; exact hc m s hs' 2 _ rfl
    refine ⟨h.ok, by omega, by rw [hcell]; rfl, ⟨h1, h2⟩, hA, by rw [hcell]; rfl, fun n s hs => ⟨(hst n s hs).1, (hst n s hs).2.1⟩, ?_, fun n v hv => ?_, by simp, by simp, fun n v X hv hX => ?_, fun j k v v' _ hv _ => ?_, ⟨hplt, hm, hg⟩, h.ne, fun hT => ?_⟩
    · obtain ⟨D, hD, hV⟩ := h.map
      exact ⟨_, D, hD, hV⟩
    · have hnl := (List.getElem?_eq_some_iff.1 hv).1
      rw [List.length_replicate] at hnl
      rw [List.getElem?_replicate, if_pos hnl] at hv
      have e := Option.some.inj hv
      subst e
      refine ⟨(hst n _ (List.getElem?_eq_getElem hnl)).2.2, ?_⟩
      by_cases hn : n = 0
      · subst hn
        rw [adM_zero]
        exact frozen_of h.row
      · rw [adM_pos p g hn]
        exact (hb (by omega)).2 _
    · have hnl := (List.getElem?_eq_some_iff.1 hv).1
      rw [List.length_replicate] at hnl
      rw [List.getElem?_replicate, if_pos hnl] at hv hX
      have e := Option.some.inj hv
      have e' := Option.some.inj hX
      subst e e'
      exact World.ownsRow_nil _ _ _ _
    · have hnl := (List.getElem?_eq_some_iff.1 hv).1
      rw [List.length_replicate] at hnl
      rw [List.getElem?_replicate, if_pos hnl] at hv
      have e := Option.some.inj hv
      subst e
      exact .inl rfl
    · have := (hb hT).1
      exact ⟨by omega, by omega⟩
  rcases h.own.2 with ⟨e, h0'⟩ | ⟨g, cap, cur, e, hb, hg, h1, h2, h3, h4⟩
  · refine ⟨none, 0, p, .inr rfl, key none 0 p (by rw [e, h0']) (by omega) (by simp [maxLen]) (by omega) hplt (by omega) (fun m s hs => ?_)⟩
    have := (List.getElem?_eq_some_iff.1 hs).1
    rw [List.length_tail] at this
    omega
  · refine ⟨some ⟨g, 0, none⟩, cap, g, .inl (by rw [e]; rfl), key _ cap g e h1 h2 (fun _ => rfl) (Array.getElem?_eq_some_iff.1 hg).1 (fun _ => ⟨hb, fun j => frozen_of hg⟩) (fun m s hs j u hu => ?_)⟩
    have hj : j < 3 := (List.getElem?_eq_some_iff.1 hu).1
    have hm := (List.getElem?_eq_some_iff.1 hs).1
    rw [List.length_tail] at hm
    rw [cell_of_row w g _ cur _ (0, 0) hg]
    have h5 := gCells_at (stE_ln T) T.tail m j s hs hj
    rw [← h4, List.getElem?_take, if_pos (by omega), hu] at h5
    simpa using h5
theorem Mch.reads {w : World} {b3 p c g mp : Nat} {A : Option Addr} {T : List (List Int)} {vals : List Value} {X : List Int → List Nat} (h : Mch w b3 p A c g mp T vals (T.map X)) : MachR w p A c g mp T X := by
  refine ⟨h.ok, h.len, h.more, h.cap, h.adr, h.nx, fun n s hs => ?_, h.map⟩
  have hnl := (List.getElem?_eq_some_iff.1 hs).1
  obtain ⟨v, hv⟩ : ∃ v, vals[n]? = some v := ⟨_, List.getElem?_eq_getElem (by rw [h.lv]; exact hnl)⟩
  exact ⟨(h.st n s hs).1, (h.st n s hs).2, v, (h.rl n v hv).1, GRuns.of_own (enc := numCell) (k := 1) (fun _ => rfl) rfl (h.own n v (X s) hv (by simp [hs]))⟩
/-- A rule's number more among those of its state. -/
theorem idx_set {T F : List (List Int)} (hT : TreeOk T) {n k : Nat} {f : List Int} (hn : T[n]? = some f) (hf : F[k]? = some f) : (T.map (idxP F k)).set n (idxP F k f ++ [k]) = T.map (idxP F (k + 1)) := by
  have hd : F.getD k [] = f := by rw [List.getD_eq_getElem?_getD, hf]; rfl
  have hnl := (List.getElem?_eq_some_iff.1 hn).1
  apply List.ext_getElem?
  intro j
  by_cases hj : j = n
  · subst hj
    rw [List.getElem?_set_self (by simpa using hnl), List.getElem?_map, hn]
    simp [idxP_succ, hf]
  · rw [List.getElem?_set_ne (Ne.symm hj), List.getElem?_map, List.getElem?_map]
    cases ht : T[j]? with
    | none => rfl
    | some t =>
      have hne : ¬ f = t := fun e => hj (hT.inj ht (by rw [hn, e]))
      simp [idxP_succ, hf, hne]
theorem adM_form (p g n : Nat) : ∃ b o, (∀ j, adM p g n j = ⟨b, o + j, none⟩) := by
  by_cases h : n = 0
  · exact ⟨p, 0, fun j => by rw [h, adM_zero, Nat.zero_add]⟩
  · exact ⟨g, (n - 1) * 3, fun j => by rw [adM_pos p g h]⟩

/-- A machine without rules, as New lays it. -/
theorem grw_new (w : World) (b2 : Nat) (hb : w.heap.size + 1 < b2) : Grw ((w.alloc (.map #[] 0)).alloc (.cells #[.int .i64 0, .int .i64 0, .slice none 0 0, .slice none 0 0, .map (some w.heap.size)] 68)) b2 (w.heap.size + 1) w.heap.size (.slice none 0 0) [[]] := by
  refine ⟨tree_one, by simp, by omega, ⟨hb, by omega⟩, ?_, World.ownsRow_nil _ _ _ _, .map [], (World.ownsMap_made w Tryd.prog 83 (plainElem Tryd.prog 3)).alloc _, ViewE.none_⟩
  have := heap_alloc_new (w.alloc (.map #[] 0)) (.cells #[.int .i64 0, .int .i64 0, .slice none 0 0, .slice none 0 0, .map (some w.heap.size)] 68)
  rwa [World.size_alloc] at this
/-- As many rules laid. -/
structure NI (w0 wr : World) (b3 p : Nat) (A : Option Addr) (c g mp gw : Nat) (T F : List (List Int)) (wh : List Nat) (k : Nat) : Prop where
  ex : ∃ vals, Mch wr b3 p A c g mp T vals (T.map (idxP F k))
  row : RowN wr gw wh
  low : ∀ m, m < w0.heap.size → wr.heap[m]? = w0.heap[m]?
  bel : Below 0 w0 wr
  lo : w0.heap.size ≤ p ∧ w0.heap.size ≤ g ∧ gw < b3 ∧ gw ≠ p ∧ gw ≠ g ∧ b3 ≤ wr.heap.size
  wl : wh.length = F.length
  wt : ∀ (j : Nat) f, F[j]? = some f → ∃ n, wh[j]? = some n ∧ T[n]? = some f
theorem NI.below {w0 wr : World} {b3 p c g mp gw k : Nat} {A : Option Addr} {T F : List (List Int)} {wh : List Nat} (h : NI w0 wr b3 p A c g mp gw T F wh k) : Below w0.heap.size w0 wr :=
  ⟨h.bel.os, h.bel.tape, h.bel.output, h.bel.size, fun m hm => h.low m hm⟩
/-- What New hands out: no machine beside an error, else one of these rules. -/
def NewPost (n0 : Nat) (L : List Blk) (er : Int) (mv : Value) (w' : World) : Prop := (er ≠ 0 ∧ mv = .pointer none) ∨ (er = 0 ∧ ∃ p, mv = .pointer (some ⟨p, 0, none⟩) ∧ n0 ≤ p ∧ MachOk w' p L)

set_option maxRecDepth 100000 in
set_option maxHeartbeats 8000000 in
theorem new_any (u : Value) (L : List Blk) (w : World) (hO : Okw w) (hu : BRuns w u L) (hl : L.length ≤ 2000000) (hz : szL L) :
    Calls Tryd.prog 11 #[u] w fun e w' => ∃ mv, e = .returned (.tuple #[mv, .int .i64 (risS L)]) ∧ NewPost w.heap.size L (risS L) mv w' ∧ Below w.heap.size w w' := by
  have ci := ris_any u L w hO hu hl hz
  obtain ⟨A0, c0, e⟩ := hu.slice
  subst e
  have hfac : risS L = 0 → (∀ b ∈ L, Lib.validD b.1.data.toList = true) ∧ L.length ≤ 4096 ∧ (∀ f ∈ frs L, f.length ≤ 3 ∧ ∀ x ∈ f, Lib.validRune x = true) := fun h => by
    obtain ⟨h1, h2, h3⟩ := risS_facts h
    exact ⟨fun b hb => (rchk_from (rall_zero.1 h1 b hb)).1, h3, frs_valid h1⟩
  obtain ⟨er, her⟩ : ∃ z, risS L = z := ⟨_, rfl⟩
  rw [her] at ci hfac ⊢
  obtain ⟨n, hn⟩ : ∃ n, L.length = n := ⟨_, rfl⟩
  rw [hn] at ci hu hl hfac ⊢
  have CI := Lib.hid ci; have HU := Lib.hid hu; have HZ := Lib.hid hz; have HOK := Lib.hid hO; have HFC := Lib.hid hfac; have HN := Lib.hid hn
  have hcf := fun w hO hu hl hv => froms_any (.slice A0 n c0) L w hO hu hl hz hv
  have HCF := Lib.hid hcf
  clear her ci hu hz hO hfac hn hcf
  have hmm := @run_makeMap Tryd.prog
  go_enter Tryd.func11, Tryd.ntmps11
  go_wp2_with fail
  refine CI.out.mono ?_
  rintro e w1 ⟨rfl, b1⟩
  have B1 := Lib.hid b1
  have U1 := Lib.hid (HU.out.below b1)
  have K1 := Lib.hid (HOK.out.below b1)
  clear b1
  by_cases h0 : er = 0
  · subst h0
    obtain ⟨hv, hn4, h3⟩ := HFC.out (by first | rfl | trivial)
    have hgn := fun b2 => grw_new w1 b2
    have hbA : Below w1.heap.size w1 ((w1.alloc (.map #[] 0)).alloc (.cells #[.int .i64 0, .int .i64 0, .slice none 0 0, .slice none 0 0, .map (some w1.heap.size)] 68)) := ((Below.refl _ _).alloc (Nat.le_refl _) _).alloc (by simp) _
    have hsA : ((w1.alloc (.map #[] 0)).alloc (.cells #[.int .i64 0, .int .i64 0, .slice none 0 0, .slice none 0 0, .map (some w1.heap.size)] 68)).heap.size = w1.heap.size + 2 := by simp
    obtain ⟨wA, hwA⟩ : ∃ z, (w1.alloc (.map #[] 0)).alloc (.cells #[.int .i64 0, .int .i64 0, .slice none 0 0, .slice none 0 0, .map (some w1.heap.size)] 68) = z := ⟨_, rfl⟩
    rw [hwA] at hgn hbA hsA
    have KA := Lib.hid (K1.out.below hbA)
    have UA := Lib.hid (U1.out.below hbA)
    have HWA := Lib.hid hwA; have HBA := Lib.hid hbA; have HSA := Lib.hid hsA; have HGN := Lib.hid hgn; have H3 := Lib.hid h3; have HV := Lib.hid hv; have HN4 := Lib.hid hn4
    clear hwA hbA hsA hgn h3 hv hn4 HFC
    obtain ⟨mp, hmp⟩ : ∃ z, w1.heap.size = z := ⟨_, rfl⟩
    have HMP := Lib.hid hmp; clear hmp
    go_wp2_with fail
    rw [HWA.out]
    refine (HCF.out wA KA.out UA.out (by rw [HN.out]; exact HN4.out) HV.out).mono ?_
    rintro e w3 ⟨v, vals, rfl, hF, b3⟩
    have B3 := Lib.hid b3
    have hG : Grw w3 w3.heap.size (w1.heap.size + 1) w1.heap.size (.slice none 0 0) [[]] := (HGN.out w3.heap.size (by have := b3.size; have := HSA.out; omega)).moved b3
    have cg := grow_any w3 (w1.heap.size + 1) w1.heap.size wA.heap.size v vals (frs L) hG (by rw [HSA.out]; omega) (by rw [HSA.out]; omega) hF (by rw [frs_len, HN.out]; exact HN4.out) H3.out
    rw [frs_len, HN.out, HMP.out] at cg
    have CG := Lib.hid cg
    have hlen3 : w1.heap.size + 2 ≤ w3.heap.size := by have := b3.size; have := HSA.out; omega
    have H3S := Lib.hid hlen3
    clear b3 hG cg hF hlen3
    rw [HMP.out]
    go_wp2_with fail
    refine CG.out.mono ?_
    rintro e w4 ⟨gw, rfl, hGI⟩
    obtain ⟨mv, T, wh, t1, t2, t3, t4, t5, t6⟩ := hGI.ex
    have h4s := hGI.size
    have hgw := hGI.hgw
    have hgwlt := t3.lt
    obtain ⟨A, c, g, hg, hM⟩ := t1.done_all (by have := t1.lo.2; omega)
    have HT : Hid (∀ s, s ∈ T ↔ s ∈ metP (frs L)) := Lib.hid (t2.whole (fun f hf => (H3.out f hf).1))
    have HI : Hid (NI w1 w4 w4.heap.size (mp + 1) A c g mp gw T (frs L) wh 0) := Lib.hid ⟨⟨_, by
        have e : T.map (idxP (frs L) 0) = List.replicate T.length [] := by
          rw [show idxP (frs L) 0 = fun _ => [] from rfl]
          exact List.map_const' ..
        rw [e]; exact hM⟩, t3, fun m hm => by
        have h5 := hGI.low m (by have := H3S.out; omega) (by have := HMP.out; omega) (by have := HMP.out; omega)
        rw [h5, B3.out.block m (by have := HSA.out; omega), HBA.out.block m hm], ((HBA.out.mono (Nat.zero_le _)).trans (B3.out.mono (Nat.zero_le _))).trans hGI.bel,
        ⟨by have := HMP.out; omega, by
          rcases hg with e | e
          · have := own_block t1.own g e
            have := H3S.out; have := HMP.out; omega
          · have := HMP.out; omega, hgwlt, by have := H3S.out; have := HMP.out; omega, by
          rcases hg with e | e
          · intro e2
            exact rown_apart t3 t1.own (by rw [e, e2])
          · have := H3S.out; have := HMP.out; omega, Nat.le_refl _⟩, t4, fun j f hf => by
        obtain ⟨q, h1, h2⟩ := t5 j f hf
        rw [if_neg (by omega), List.take_of_length_le (H3.out f (List.mem_of_getElem? hf)).1] at h2
        exact ⟨q, h1, h2⟩⟩
    obtain ⟨b3, hb3⟩ : ∃ z, w4.heap.size = z := ⟨_, rfl⟩
    rw [hb3] at HI
    clear hGI t1 t2 t3 t4 t5 t6 h4s hgw hgwlt hg hM CG B3 H3S HGN HCF hb3 HSA HBA HWA KA UA
    go_wp2
    go_loopw [22] (fun s22 wr => ∃ k : Nat, k ≤ n ∧ s22 = .int .i64 k ∧ Hid (NI w1 wr b3 (mp + 1) A c g mp gw T (frs L) wh k)) (fun s22 _ => n - (RowKit.intOf s22).toNat)
    case atStart => exact ⟨0, Nat.zero_le _, rfl, HI⟩
    case round =>
      clear HI
      obtain ⟨k, hkn, rfl, HI⟩ := hrel
      by_cases hk : k < n
      · have k1 : (k : Int) < (n : Int) := by omega
        obtain ⟨f, hf⟩ : ∃ f, (frs L)[k]? = some f := ⟨_, List.getElem?_eq_getElem (by rw [frs_len, HN.out]; exact hk)⟩
        obtain ⟨m, hm1, hm2⟩ := HI.out.wt k f hf
        have g0 := HI.out.row.cell k (List.getElem?_eq_some_iff.1 hm1).1
        have hgd : wh.getD k 0 = m := by rw [List.getD_eq_getElem?_getD, hm1]; rfl
        rw [hgd] at g0
        obtain ⟨vals2, hM⟩ := HI.out.ex
        have hml := (List.getElem?_eq_some_iff.1 hm2).1
        have cst := state_any wr (mp + 1) c g mp m A T _ hM.reads hml
        obtain ⟨v2, hv2⟩ : ∃ v, vals2[m]? = some v := ⟨_, List.getElem?_eq_getElem (by rw [hM.lv]; exact hml)⟩
        obtain ⟨g', c', w5, hrun, x1, x2, hM5, hlow5, hb5⟩ := hM.add hv2 (by rw [List.getElem?_map, hm2]; rfl) HI.out.lo.2.2.2.2.2 (by have := idxP_len (frs L) k f; have := HN4.out; omega) k
        have x0 := (hM.rl m v2 hv2).1
        obtain ⟨ab, ao, hab⟩ := adM_form (mp + 1) g m
        rw [hab] at x0 x1 x2 cst hM5 hlow5 hb5
        rw [Nat.add_zero] at cst
        rw [idx_set hM.ok hm2 hf] at hM5
        have hlo := HI.out.lo
        have hsz5 : wr.heap.size ≤ w5.heap.size := by
          have := hb5.size
          have e : (w5.setCell ⟨ab, ao + 2, none⟩ (.slice (some ⟨g', 0, none⟩) ((idxP (frs L) k f).length + 1) c')).heap.size = w5.heap.size := by
            show (w5.heap.modify _ _).size = _
            rw [Array.size_modify]
          rwa [e] at this
        have HI5 : Hid (NI w1 (w5.setCell ⟨ab, ao + 2, none⟩ (.slice (some ⟨g', 0, none⟩) ((idxP (frs L) k f).length + 1) c')) b3 (mp + 1) A c g mp gw T (frs L) wh (k + 1)) := Lib.hid ⟨⟨_, hM5⟩, (hlow5 gw hlo.2.2.1 hlo.2.2.2.1 hlo.2.2.2.2.1).trans HI.out.row, fun q hq => by
          have hq3 : q < b3 := by have := hM.lo.1; omega
          rw [hlow5 q hq3 (by omega) (by omega), HI.out.low q hq], HI.out.bel.trans hb5, ⟨hlo.1, hlo.2.1, hlo.2.2.1, hlo.2.2.2.1, hlo.2.2.2.2.1, by
            refine Nat.le_trans hlo.2.2.2.2.2 hb5.size⟩, HI.out.wl, HI.out.wt⟩
        obtain ⟨W5, hW5⟩ : ∃ z, w5.setCell ⟨ab, ao + 2, none⟩ (.slice (some ⟨g', 0, none⟩) ((idxP (frs L) k f).length + 1) c') = z := ⟨_, rfl⟩
        have HW5 := Lib.hid hW5
        rw [hW5] at HI5
        obtain ⟨q5, hq5⟩ : ∃ z, (idxP (frs L) k f).length + 1 = z := ⟨_, rfl⟩
        rw [hq5] at hrun HW5
        have CST := Lib.hid cst
        have HR := Lib.hid hrun
        clear hf hm1 hm2 hgd hM hml cst hv2 hrun hM5 hlow5 hb5 hab hlo hsz5 hW5 hq5
        go_wp2_with (first | (go_at_call 29; refine CST.out.mono ?_; rintro e w' ⟨rfl, rfl⟩) | (at_builtin; refine wpList_append_run (.tmp 34) (.tmp 36) 38 _ _ _ _ HR.out rfl rfl rfl rfl ?_))
        rw [HW5.out]
        exact ⟨⟨k + 1, by omega, by go_num, HI5⟩, by simp [RowKit.intOf]; omega⟩
      · obtain rfl : k = n := by omega
        have HE : Hid (MachOk wr (mp + 1) L) := Lib.hid (by
          obtain ⟨vals2, hM⟩ := HI.out.ex
          refine ⟨A, c, g, mp, T, ?_, HT.out⟩
          have := hM.reads
          rwa [← HN.out, ← frs_len] at this)
        go_wp2
        go_ret2
        exact ⟨_, rfl, .inr ⟨rfl, mp + 1, rfl, by have := HMP.out; have := B1.out.size; omega, HE.out⟩, B1.out.trans (HI.out.below.mono B1.out.size)⟩
  · have hne : (er != 0) = true := by simpa using h0
    go_wp2
    go_ret2
    exact ⟨_, rfl, .inl ⟨h0, rfl⟩, B1.out⟩
end Go.Proofs.YtbbkkoeipkigdaaDoor

