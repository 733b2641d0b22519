/- count.Find: how often a table has a block of these sides. -/
import Derived.Test.YtnognphjndpgkaaDoorPk8
import Derived.Test.YtnognphjndpgkaaDoorPk6
import Derived.Shelf.SlSorted.Search
import Derived.Test.YtnognphjndpgkaaDoorShelf2
namespace Go.Proofs.YtnognphjndpgkaaDoor
open Go.RowKit Go.Shelf Go.Lib
open Go.Sort (grow alloc_eq_grow grow_grow)
set_option linter.unusedSimpArgs false
set_option linter.unusedVariables false

set_option maxRecDepth 100000 in
set_option maxHeartbeats 4000000 in
/-- What Find asks of each place. -/
theorem find1_lays (W : World) (p0 p1 : Nat) (A : Option Addr) (n c : Nat) (l : List Blk) (k : Blk) (i : Nat) (hn : l.length = n) (h0 : W.cell? ⟨p0, 0, none⟩ = some (.slice A n c)) (h1 : W.heap[p1]? = some (.cells #[.string k.1, .string k.2.1, .int .i64 k.2.2] 40 (0, 0)))
    (hu : BRuns W (.slice A n c) l) (hi : i < n) (x : Blk) (hx : l[i]? = some x) (hl : n ≤ 2000000) :
    Calls Tryd.prog 47 (#[.int .i64 i] ++ #[.pointer (some ⟨p0, 0, none⟩), .pointer (some ⟨p1, 0, none⟩)]) W fun e w' => e = .returned (.bool (!lessB x k)) ∧ ∃ q os, w' = grow (W.drewN q) os := by
  obtain ⟨x1, x2, x3⟩ := x
  obtain ⟨k1, k2, k3⟩ := k
  simp only at h1
  obtain ⟨b, o, rfl, hblt, hc⟩ := hu.cells hn (by omega)
  obtain ⟨g0, g1, g2⟩ := blk_cells hc hx
  simp only at g0 g1 g2
  have d0 : W.cell? ⟨p1, 0, none⟩ = some (.string k1) := by rw [cell_of_row _ _ _ _ _ _ h1]; rfl
  have d1 : W.cell? ⟨p1, 1, none⟩ = some (.string k2) := by rw [cell_of_row _ _ _ _ _ _ h1]; rfl
  have d2 : W.cell? ⟨p1, 2, none⟩ = some (.int .i64 k3) := by rw [cell_of_row _ _ _ _ _ _ h1]; rfl
  have c1 := fun w => less_lays x1 x2 k1 k2 x3 k3 w
  obtain ⟨le, hle⟩ : ∃ z, lessB (x1, x2, x3) (k1, k2, k3) = z := ⟨_, rfl⟩
  simp only [hle] at c1 ⊢
  have C1 := Lib.hid c1
  have hi1 : (i : Int) < (n : Int) := by omega
  have F : ∀ q os, (grow (W.drewN q) os).cell? ⟨p0, 0, none⟩ = some (.slice (some ⟨b, o, none⟩) n c) ∧ (grow (W.drewN q) os).cell? ⟨b, o + i * 3, none⟩ = some (.string x1) ∧ (grow (W.drewN q) os).cell? ⟨b, o + i * 3 + 1, none⟩ = some (.string x2) ∧ (grow (W.drewN q) os).cell? ⟨b, o + i * 3 + 2, none⟩ = some (.int .i64 x3) ∧ (grow (W.drewN q) os).cell? ⟨p1, 0, none⟩ = some (.string k1) ∧ (grow (W.drewN q) os).cell? ⟨p1, 1, none⟩ = some (.string k2) ∧ (grow (W.drewN q) os).cell? ⟨p1, 2, none⟩ = some (.int .i64 k3) := fun q os => ⟨grow_cell _ _ h0, grow_cell _ _ g0, grow_cell _ _ g1, grow_cell _ _ g2, grow_cell _ _ d0, grow_cell _ _ d1, grow_cell _ _ d2⟩
  have F0 := fun q os => (F q os).1; have F1 := fun q os => (F q os).2.1; have F2 := fun q os => (F q os).2.2.1; have F3 := fun q os => (F q os).2.2.2.1; have F4 := fun q os => (F q os).2.2.2.2.1; have F5 := fun q os => (F q os).2.2.2.2.2.1; have F6 := fun q os => (F q os).2.2.2.2.2.2
  clear F hc hx hu h1 hle c1
  have hmix : Tryd.prog.follows .mixedOrders = true := by kernel_rfl
  show Calls Tryd.prog 47 #[.int .i64 (i : Int), .pointer (some ⟨p0, 0, none⟩), .pointer (some ⟨p1, 0, none⟩)] W _
  go_enter Tryd.func47, Tryd.ntmps47
  go_wp2
  go_quiet_grown (first | (go_at_call 30; refine Calls.grown_of (C1.out _)) | refine Calls.grown_of (C1.out _))
  go_wp2
  go_ret
  exact ⟨rfl, _, _, rfl⟩

/-- How many stand ahead of a block: its place. -/
theorem srt_place {l : List Blk} (hs : Srt l) (k : Blk) : ∃ at_ : Nat, at_ ≤ l.length ∧ (∀ j y, j < at_ → l[j]? = some y → lessB y k = true) ∧ (∀ j y, at_ ≤ j → l[j]? = some y → lessB y k = false) := by
  induction l with
  | nil => exact ⟨0, by simp, fun j y h => by omega, fun j y _ h => by simp at h⟩
  | cons a l ih =>
    cases h : lessB a k with
    | true =>
      obtain ⟨m, h1, h2, h3⟩ := ih hs.2
      refine ⟨m + 1, by simpa using h1, fun j y hj hy => ?_, fun j y hj hy => ?_⟩
      · cases j with
        | zero =>
          obtain rfl : a = y := by simpa using hy
          exact h
        | succ j => exact h2 j y (by omega) (by simpa using hy)
      · cases j with
        | zero => omega
        | succ j => exact h3 j y (by omega) (by simpa using hy)
    | false =>
      refine ⟨0, by simp, fun j y hj => by omega, fun j y _ hy => ?_⟩
      cases j with
      | zero =>
        obtain rfl : a = y := by simpa using hy
        exact h
      | succ j =>
        have hm : y ∈ l := List.mem_of_getElem? (by simpa using hy)
        cases h4 : lessB y k with
        | false => rfl
        | true =>
          have := less_on a y k (hs.1 y hm) h4
          rw [h] at this; cases this
theorem count_place {l : List Blk} {m : Nat} {p : Nat → Bool} (hm : m ≤ l.length) (h1 : ∀ j, j < m → p j = false) (h2 : ∀ j, m ≤ j → j < l.length → p j = true) : (List.range l.length).countP (fun i => !p i) = m := by
  obtain ⟨d, hd⟩ : ∃ d, l.length = m + d := ⟨l.length - m, by omega⟩
  rw [hd, List.range_add, List.countP_append]
  have e1 : (List.range m).countP (fun i => !p i) = m := by
    rw [List.countP_eq_length.2 (fun i hi => by rw [h1 i (List.mem_range.1 hi)]; rfl)]; simp
  have e2 : ((List.range d).map (m + ·)).countP (fun i => !p i) = 0 := by
    rw [List.countP_eq_zero]
    intro i hi
    obtain ⟨j, hj, rfl⟩ := List.mem_map.1 hi
    rw [h2 (m + j) (by omega) (by have := List.mem_range.1 hj; omega)]
    simp
  rw [e1, e2, Nat.add_zero]
theorem find_at {l : List Blk} (hs : Srt l) (k : Blk) {m : Nat} (h1 : ∀ j y, j < m → l[j]? = some y → lessB y k = true) (h2 : ∀ j y, m ≤ j → l[j]? = some y → lessB y k = false) : (l[m]? = none → cnt l k = 0) ∧ (∀ y, l[m]? = some y → (sameS y k → cnt l k = y.2.2) ∧ (¬ sameS y k → cnt l k = 0)) := by
  have hne : ∀ j y, l[j]? = some y → j ≠ m → ¬ sameS y k := fun j y hy hj e => by
    rcases Nat.lt_or_ge j m with h | h
    · exact (less_not (h1 j y h hy)).2 e
    · have hmj : m < j := by omega
      have hml : m < l.length := by have := (List.getElem?_eq_some_iff.1 hy).1; omega
      obtain ⟨z, hz⟩ : ∃ z, l[m]? = some z := ⟨_, List.getElem?_eq_getElem hml⟩
      have hpw : ∀ (l : List Blk), Srt l → ∀ (i j : Nat) (x y : Blk), i < j → l[i]? = some x → l[j]? = some y → lessB x y = true := by
        intro l
        induction l with
        | nil => intro _ i j x y _ h; simp at h
        | cons a l ih =>
          intro hs i j x y hij hx hy
          cases i with
          | zero =>
            obtain rfl : a = x := by simpa using hx
            cases j with
            | zero => omega
            | succ j => exact hs.1 y (List.mem_of_getElem? (by simpa using hy))
          | succ i =>
            cases j with
            | zero => omega
            | succ j => exact ih hs.2 i j x y (by omega) (by simpa using hx) (by simpa using hy)
      have h3 := hpw l hs m j z y hmj hz hy
      have h4 := h2 m z (Nat.le_refl _) hz
      rw [less_key (c := z) (d := y) ⟨rfl, rfl⟩ (sameS_symm e), h3] at h4
      cases h4
  refine ⟨fun h => ?_, fun y hy => ⟨fun e => ?_, fun e => ?_⟩⟩
  · refine cnt_none (fun b hb => ?_)
    obtain ⟨j, hj⟩ := List.getElem?_of_mem hb
    exact hne j b hj (fun e => by rw [e, h] at hj; cases hj)
  · rw [← cnt_key e]
    exact srt_mem_cnt hs y (List.mem_of_getElem? hy)
  · refine cnt_none (fun b hb => ?_)
    obtain ⟨j, hj⟩ := List.getElem?_of_mem hb
    by_cases hjm : j = m
    · subst hjm
      rw [hy] at hj
      obtain rfl := Option.some.inj hj
      exact e
    · exact hne j b hj hjm

set_option maxRecDepth 100000 in
set_option maxHeartbeats 8000000 in
theorem find_any (u : Value) (l : List Blk) (p q : ByteArray) (w : World) (hO : Okw w) (hu : BRuns w u l) (hl : l.length ≤ 2000000) (hz : szL l) :
    Calls Tryd.prog 24 #[u, .string p, .string q] w fun e w' => e = .returned (.tuple #[.int .i64 (finS l (p, q, 0)), .int .i64 (chkT l)]) ∧ Below w.heap.size w w' := by
  obtain ⟨A, c, e⟩ := hu.slice
  subst e
  have ce := fun w hO hu => check6_any (.slice A l.length c) l w hO hu hl hz
  have hF : finS l (p, q, 0) = if chkT l = 0 then cnt l (p, q, 0) else 0 := rfl
  obtain ⟨res, hres⟩ : ∃ r, finS l (p, q, 0) = r := ⟨_, rfl⟩
  obtain ⟨ea, hea⟩ : ∃ r, chkT l = r := ⟨_, rfl⟩
  have HK : Hid (ea = 0 → Srt l) := Lib.hid (fun h => (chkT_facts (by rw [hea]; exact h)).2.1)
  rw [hres] at hF
  rw [hea] at hF
  rw [hres, hea]
  simp only [hea] at ce
  have HF := Lib.hid hF
  obtain ⟨n, hn⟩ : ∃ n, l.length = n := ⟨_, rfl⟩
  simp only [hn] at ce
  rw [hn] at hl hu ⊢
  have CE := Lib.hid ce; have HN := Lib.hid hn
  have hal0 : Below w.heap.size w (w.alloc (.cells #[.slice A n c] 38)) := (Below.refl _ _).alloc (Nat.le_refl _) _
  have h0 : (w.alloc (.cells #[.slice A n c] 38)).cell? ⟨w.heap.size, 0, none⟩ = some (.slice A n c) := by rw [cell_of_row _ _ _ _ _ _ (heap_alloc_new w _)]; rfl
  have hlt0 : w.heap.size < (w.alloc (.cells #[.slice A n c] 38)).heap.size := by simp
  have HU := Lib.hid (hu.below hal0); have HOK := Lib.hid (hO.below hal0)
  obtain ⟨wa, hwa⟩ : ∃ z, w.alloc (.cells #[.slice A n c] 38) = z := ⟨_, rfl⟩
  rw [hwa] at h0 HU HOK hal0 hlt0
  have BA := Lib.hid hal0; have HWA := Lib.hid hwa
  obtain ⟨p0, hp0⟩ : ∃ z, w.heap.size = z := ⟨_, rfl⟩
  rw [hp0] at h0 hlt0
  have HP0 := Lib.hid hp0
  clear hres hea hF ce hn hu hO hz hwa hal0 hp0
  go_enter Tryd.func24, Tryd.ntmps24
  go_wp2_with fail
  rw [HWA.out, HP0.out]
  refine (CE.out _ HOK.out HU.out).mono ?_
  rintro e w1 ⟨rfl, b1⟩
  have U1 := Lib.hid (HU.out.below b1)
  have B1 : Hid (Below w.heap.size w w1) := Lib.hid (BA.out.trans (b1.mono BA.out.size))
  have g0 : w1.cell? ⟨p0, 0, none⟩ = some (.slice A n c) := (b1.cell (p := ⟨p0, 0, none⟩) hlt0).trans h0
  have lt1 : p0 < w1.heap.size := Nat.lt_of_lt_of_le hlt0 b1.size
  clear b1 h0 hlt0 HOK CE BA HWA HU
  by_cases h0 : ea = 0
  · subst h0
    have hs := HK.out (by first | rfl | trivial)
    have hr : Hid (res = cnt l (p, q, 0)) := Lib.hid (by rw [HF.out, if_pos (by first | rfl | trivial)])
    clear HF HK
    have hal2 := (Below.refl w1.heap.size w1).alloc (Nat.le_refl _) (.cells #[.string p, .string q, .int .i64 0] 40)
    have hx2 := heap_alloc_new w1 (.cells #[.string p, .string q, .int .i64 0] 40)
    have f0 := (hal2.cell (p := ⟨p0, 0, none⟩) lt1).trans g0
    have lt2 : w1.heap.size < (w1.alloc (.cells #[.string p, .string q, .int .i64 0] 40)).heap.size := by simp
    have U2 := Lib.hid (U1.out.below hal2)
    obtain ⟨w2, hw2⟩ : ∃ z, w1.alloc (.cells #[.string p, .string q, .int .i64 0] 40) = z := ⟨_, rfl⟩
    rw [hw2] at hal2 hx2 f0 U2 lt2
    have B2 : Hid (Below w.heap.size w w2) := Lib.hid (B1.out.trans (hal2.mono B1.out.size))
    obtain ⟨p1, hp1⟩ : ∃ z, w1.heap.size = z := ⟨_, rfl⟩
    rw [hp1] at hx2 lt2
    obtain ⟨m, hm1, hm2, hm3⟩ := srt_place hs (p, q, 0)
    have eg : ∀ args w, (callFunc 47 args).run Tryd.prog w = .ok (.enter 47 args) w := enters_of Tryd.func47 (by kernel_rfl) rfl
    have cs := Any.sort_Search (P := Tryd.prog) Tryd.searchL 47 #[.pointer (some ⟨p0, 0, none⟩), .pointer (some ⟨p1, 0, none⟩)] n (fun i => match l[i]? with | some x => !lessB x (p, q, 0) | none => true) w2 eg (by omega)
      (fun k os i hi => by
        obtain ⟨x, hx⟩ : ∃ x, l[i]? = some x := ⟨_, List.getElem?_eq_getElem (by rw [HN.out]; exact hi)⟩
        have := find1_lays (grow (w2.drewN k) os) p0 p1 A n c l (p, q, 0) i HN.out (grow_cell _ _ f0) ((below_grows w2 k os).block p1 (by simpa using lt2) |>.trans hx2) (U2.out.below (below_grows w2 k os)) hi x hx hl
        simpa only [hx] using this)
      (fun a b hab hb hpa => by
        obtain ⟨x, hx⟩ : ∃ x, l[a]? = some x := ⟨_, List.getElem?_eq_getElem (by rw [HN.out]; omega)⟩
        obtain ⟨y, hy⟩ : ∃ y, l[b]? = some y := ⟨_, List.getElem?_eq_getElem (by rw [HN.out]; exact hb)⟩
        simp only [hx, hy] at hpa ⊢
        have h1 : m ≤ a := by
          rcases Nat.lt_or_ge a m with h | h
          · rw [hm2 a x h hx] at hpa; cases hpa
          · exact h
        rw [hm3 b y (by omega) hy]; rfl)
    have hcnt : (List.range n).countP (fun i => !(match l[i]? with | some x => !lessB x (p, q, 0) | none => true)) = m := by
      rw [← HN.out]
      refine count_place hm1 (fun j hj => ?_) (fun j hj hjl => ?_)
      · obtain ⟨y, hy⟩ : ∃ y, l[j]? = some y := ⟨_, List.getElem?_eq_getElem (by omega)⟩
        simp only [hy, hm2 j y hj hy]; rfl
      · obtain ⟨y, hy⟩ : ∃ y, l[j]? = some y := ⟨_, List.getElem?_eq_getElem hjl⟩
        simp only [hy, hm3 j y hj hy]; rfl
    rw [hcnt] at cs
    change Calls Tryd.prog 46 _ _ _ at cs
    obtain ⟨hf1, hf2⟩ := find_at hs (p, q, 0) hm2 hm3
    rw [HN.out] at hm1
    have CS := Lib.hid cs; have HF1 := Lib.hid hf1; have HF2 := Lib.hid hf2
    have HW2 := Lib.hid hw2; have HP1 := Lib.hid hp1
    clear cs hf1 hf2 hcnt hs hm2 hm3 hal2 hx2 hw2 hp1
    go_wp2_with fail
    rw [HW2.out, HP1.out]
    refine CS.out.mono ?_
    rintro e w3 ⟨rfl, q3, o3, hw3⟩
    have h23 : Below w2.heap.size w2 w3 := by rw [hw3]; exact below_grows _ _ _
    have lt0 : p0 < w2.heap.size := by
      have := World.block_lt_of_cell? w2 _ f0
      exact this
    have k0 := (h23.cell (p := ⟨p0, 0, none⟩) lt0).trans f0
    have U3 := Lib.hid (U2.out.below h23)
    have B3 : Hid (Below w.heap.size w w3) := Lib.hid (B2.out.trans (h23.mono B2.out.size))
    clear h23 hw3 f0 g0
    by_cases hmn : m = n
    · subst hmn
      have hr0 : Hid (res = 0) := Lib.hid (by rw [hr.out]; exact HF1.out (by rw [List.getElem?_eq_none (by rw [HN.out]; exact Nat.le_refl _)]))
      go_wp2
      go_ret2
      exact ⟨by rw [hr0.out]; rfl, B3.out⟩
    · have hmlt : m < n := by omega
      have i1 : (m : Int) < (n : Int) := by omega
      have i2 : ((m : Int) == (n : Int)) = false := by simp; omega
      obtain ⟨⟨y1, y2, y3⟩, hy⟩ : ∃ y, l[m]? = some y := ⟨_, List.getElem?_eq_getElem (by rw [HN.out]; exact hmlt)⟩
      obtain ⟨b, o, rfl, _, hc⟩ := U3.out.cells HN.out (by omega)
      obtain ⟨e0, e1, e2⟩ := blk_cells hc hy
      simp only at e0 e1 e2
      obtain ⟨hf3, hf4⟩ := HF2.out _ hy
      have HF3 := Lib.hid hf3; have HF4 := Lib.hid hf4
      clear hf3 hf4 hc hy
      by_cases s1 : y1 = p
      · subst s1
        by_cases s2 : y2 = q
        · subst s2
          have hr0 : Hid (res = y3) := Lib.hid (by rw [hr.out]; exact HF3.out ⟨rfl, rfl⟩)
          clear HF3 HF4
          go_wp2
          go_ret2
          exact ⟨by rw [hr0.out]; rfl, B3.out⟩
        · have t2 : (y2.toList == q.toList) = false := beq_eq_false_iff_ne.2 (fun e => s2 (toList_ext e))
          have hr0 : Hid (res = 0) := Lib.hid (by rw [hr.out]; exact HF4.out (fun e => s2 e.2))
          clear HF3 HF4
          go_wp2
          go_ret2
          exact ⟨by rw [hr0.out]; rfl, B3.out⟩
      · have t1 : (y1.toList == p.toList) = false := beq_eq_false_iff_ne.2 (fun e => s1 (toList_ext e))
        have hr0 : Hid (res = 0) := Lib.hid (by rw [hr.out]; exact HF4.out (fun e => s1 e.1))
        clear HF3 HF4
        go_wp2
        go_ret2
        exact ⟨by rw [hr0.out]; rfl, B3.out⟩
  · have h0' : (ea == 0) = false := by simpa using h0
    have hr : Hid (res = 0) := Lib.hid (by rw [HF.out, if_neg h0])
    go_wp2
    go_ret2
    exact ⟨by rw [hr.out]; rfl, B1.out⟩
end Go.Proofs.YtnognphjndpgkaaDoor
