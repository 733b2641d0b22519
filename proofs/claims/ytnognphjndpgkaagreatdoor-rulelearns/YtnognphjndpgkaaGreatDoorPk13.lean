/- Texts that several proofs of this seat share, one behind the other: RLawP DLess QPlain QChk QClone DRen QRen LPlain. -/
import Derived.Test.YtnognphjndpgkaaGreatDoorPk12
import Derived.Test.YtnognphjndpgkaaGreatDoorPk8
import Derived.Test.YtnognphjndpgkaaGreatDoorPk10
import Derived.Test.YtnognphjndpgkaaGreatDoorPk11
import Derived.Shelf.SlSortCmp.WholeK
import Derived.Test.YtnognphjndpgkaaGreatDoorShelf2
import Derived.Test.YtnognphjndpgkaaGreatDoorShelf
import Derived.Test.YtnognphjndpgkaaGreatDoorPk3
import Derived.Lib.SliceRun
import Derived.Test.YtnognphjndpgkaaGreatDoorPk9
/- Rules, plain: what follows of normal rules. -/
namespace Go.Proofs.YtnognphjndpgkaaGreatDoor
open Go.RowKit Go.Shelf

theorem foldR_keys (l out : List Blk) : ∀ z ∈ l.foldl (fun out b => insR b out) out, (∃ y ∈ l, sameS z y) ∨ ∃ y ∈ out, sameS z y := by
  induction l generalizing out with
  | nil => exact fun z hz => .inr ⟨z, hz, rfl, rfl⟩
  | cons b l ih =>
    intro z hz
    rcases ih (insR b out) z hz with ⟨y, hy, e⟩ | ⟨y, hy, e⟩
    · exact .inl ⟨y, by simp [hy], e⟩
    · rcases insR_keys b out y hy with e2 | ⟨y2, hy2, e2⟩
      · exact .inl ⟨b, by simp, e.1.trans e2.1, e.2.trans e2.2⟩
      · exact .inr ⟨y2, hy2, e.1.trans e2.1, e.2.trans e2.2⟩
theorem nrm_keys (l : List Blk) : ∀ z ∈ nrm l, ∃ y ∈ l, sameS z y := fun z hz => by
  rcases foldR_keys l [] z hz with h | ⟨y, hy, _⟩
  · exact h
  · simp at hy
theorem rchk_key {r s : Blk} (h : rchk r = 0) (e : sameS s r) (h1 : 1 ≤ s.2.2) (h2 : s.2.2 ≤ 255) : rchk s = 0 := by
  unfold rchk at h ⊢
  rw [e.1, e.2]
  split at h
  · rename_i h0
    rw [if_pos h0, if_neg (by omega)]
  · rename_i h0; exact absurd h h0
theorem nrm_chk {l : List Blk} (h : rall l = 0) : rall (nrm l) = 0 := rall_zero.2 (fun z hz => by
  obtain ⟨y, hy, e⟩ := nrm_keys l z hz
  have hc := nrm_cost (costB_of h) z hz
  exact rchk_key (rall_zero.1 h y hy) e hc.1 hc.2)
theorem insR_len (b : Blk) (l : List Blk) : (insR b l).length ≤ l.length + 1 := by
  induction l with
  | nil => simp [insR]
  | cons x t ih =>
    rw [insR]
    split
    · simp only [List.length_cons]; omega
    · split
      · simp
      · simp
theorem foldR_len (l out : List Blk) : (l.foldl (fun out b => insR b out) out).length ≤ out.length + l.length := by
  induction l generalizing out with
  | nil => simp
  | cons b l ih =>
    have h1 := ih (insR b out)
    have h2 := insR_len b out
    rw [List.foldl_cons, List.length_cons]; omega
theorem nrm_len (l : List Blk) : (nrm l).length ≤ l.length := by have := foldR_len l []; unfold nrm; simpa using this
theorem norE_facts {l : List Blk} (h : norE l = 0) : rall l = 0 ∧ (nrm l).length ≤ 4096 := by
  unfold norE at h
  split at h
  · rename_i h0
    split at h
    · cases h
    · exact ⟨h0, by omega⟩
  · rename_i h0; exact absurd h h0
theorem norE_of {l : List Blk} (h1 : rall l = 0) (h2 : (nrm l).length ≤ 4096) : norE l = 0 := by
  unfold norE; rw [if_pos h1, if_neg (by omega)]
theorem risS_of {l : List Blk} (h1 : rall l = 0) (h2 : Srt l) (h3 : l.length ≤ 4096) : risS l = 0 := by
  unfold risS; rw [if_pos h1, if_pos ((ordB_srt l).2 h2), if_neg (by omega)]
theorem risS_facts {l : List Blk} (h : risS l = 0) : rall l = 0 ∧ Srt l ∧ l.length ≤ 4096 := by
  unfold risS at h
  split at h
  · rename_i h0
    split at h
    · rename_i h1
      split at h
      · cases h
      · exact ⟨h0, (ordB_srt l).1 h1, by omega⟩
    · cases h
  · rename_i h0; exact absurd h h0
theorem nor_is {l : List Blk} (h : norE l = 0) : risS (norS l) = 0 := by
  obtain ⟨h1, h2⟩ := norE_facts h
  rw [norS, if_pos h]
  exact risS_of (nrm_chk h1) (nrm_srt (costB_of h1)) h2
theorem nor_no {l : List Blk} (h : norE l ≠ 0) : norS l = [] ∧ risS l ≠ 0 := by
  refine ⟨by rw [norS, if_neg h], fun h2 => h ?_⟩
  obtain ⟨q1, _, q3⟩ := risS_facts h2
  exact norE_of q1 (Nat.le_trans (nrm_len l) q3)
theorem nor_again {l : List Blk} (h : norE l = 0) : norE (norS l) = 0 ∧ norS (norS l) = norS l := by
  obtain ⟨h1, h2⟩ := norE_facts h
  have e : norS l = nrm l := by rw [norS, if_pos h]
  have hs : nrm (nrm l) = nrm l := nrm_self (nrm_cost (costB_of h1)) (nrm_srt (costB_of h1))
  rw [e]
  have h3 : norE (nrm l) = 0 := norE_of (nrm_chk h1) (by rw [hs]; exact h2)
  exact ⟨h3, by rw [norS, if_pos h3, hs]⟩
theorem rall_swap (a b : List Blk) : rall (a ++ b) = 0 ↔ rall (b ++ a) = 0 := by
  rw [rall_zero, rall_zero]
  constructor <;> exact fun h z hz => h z (by rcases List.mem_append.1 hz with h | h <;> simp [h])
theorem nor_swap (a b : List Blk) : (norE (a ++ b) = 0 ↔ norE (b ++ a) = 0) ∧ (norE (a ++ b) = 0 → norS (a ++ b) = norS (b ++ a)) := by
  have key : rall (a ++ b) = 0 → nrm (a ++ b) = nrm (b ++ a) := fun h => by
    have hc := costB_of h
    exact nrm_swap (fun z hz => hc z (by simp [hz])) (fun z hz => hc z (by simp [hz]))
  have h1 : norE (a ++ b) = 0 ↔ norE (b ++ a) = 0 := by
    constructor
    · intro h
      obtain ⟨q1, q2⟩ := norE_facts h
      exact norE_of ((rall_swap a b).1 q1) (by rw [← key q1]; exact q2)
    · intro h
      obtain ⟨q1, q2⟩ := norE_facts h
      have q3 := (rall_swap a b).2 q1
      exact norE_of q3 (by rw [key q3]; exact q2)
  refine ⟨h1, fun h => ?_⟩
  rw [norS, norS, if_pos h, if_pos (h1.1 h)]
  exact key (norE_facts h).1
theorem lst_mem {l : List Blk} : ∀ b ∈ l, lst l b ≤ b.2.2 := by
  induction l with
  | nil => simp
  | cons a l ih =>
    intro b hb
    rw [lst_cons]
    rcases List.mem_cons.1 hb with rfl | hb
    · rw [if_pos ⟨rfl, rfl⟩]; omega
    · have := ih b hb
      split <;> omega
/-- Each rule that was told is found, at the least cost that it was told with. -/
theorem nor_find {l : List Blk} (h : norE l = 0) : ∀ r ∈ l, lst (norS l) r = lst l r ∧ lst l r ≤ 255 := fun r hr => by
  obtain ⟨h1, _⟩ := norE_facts h
  have hc := costB_of h1
  rw [norS, if_pos h]
  refine ⟨nrm_lst hc r, ?_⟩
  have := lst_mem r hr
  have := (hc r hr).2
  omega
/-- Find's error. -/
def rfE (l : List Blk) (k : Blk) : Int := if risS l = 0 then (if lst l k = 256 then 10 else 0) else risS l
end Go.Proofs.YtnognphjndpgkaaGreatDoor

/- block.Less and count.order: which of two blocks stands ahead, with the world behind the call told to the block; slices.SortFunc over blocks. -/
namespace Go.Proofs.YtnognphjndpgkaaGreatDoor
open Go.RowKit Go.Shelf Go.Lib
open Go.Sort (grow alloc_eq_grow grow_grow SWO PermIn SortedIn HoldsK)

set_option maxRecDepth 100000 in
set_option maxHeartbeats 4000000 in
theorem less_lays (a b c d : ByteArray) (N M : Int) (w : World) :
    Calls Tryz.prog 44 #[.agg #[.string a, .string b, .int .i64 N], .agg #[.string c, .string d, .int .i64 M]] w fun e w' => e = .returned (.bool (lessB (a, b, N) (c, d, M))) ∧ ∃ q os, w' = grow (w.drewN q) os := by
  obtain ⟨res, hres⟩ : ∃ r, lessB (a, b, N) (c, d, M) = r := ⟨_, rfl⟩
  rw [hres]
  unfold lessB at hres
  simp only at hres
  have HR := Lib.hid hres; clear hres
  have hal : Hid (∃ q os, ((w.alloc (.cells #[.string a, .string b, .int .i64 N] 34)).alloc (.cells #[.string c, .string d, .int .i64 M] 34)) = grow (w.drewN q) os) := Lib.hid ⟨0, _, by rw [alloc_eq_grow, alloc_eq_grow, grow_grow]; rfl⟩
  by_cases h2 : a.toList = c.toList
  · have h1 : ¬ Op.bytesLess a.toList c.toList = true := by
      rw [h2, Go.Proofs.bytesLess_eq]
      simp [List.lt_irrefl]
    have hr : Hid (res = Op.bytesLess b.toList d.toList) := Lib.hid (by rw [← HR.out, if_neg h1, if_pos h2])
    obtain rfl := toList_ext h2
    clear h1 h2
    go_enter Tryz.func44, Tryz.ntmps44
    go_wp2
    go_ret
    exact ⟨ret_bool (by rw [hr.out]), hal.out⟩
  · have hr : Hid (res = Op.bytesLess a.toList c.toList) := Lib.hid (by
      rw [← HR.out, if_neg h2]
      cases Op.bytesLess a.toList c.toList <;> rfl)
    have h2' : (a.toList == c.toList) = false := beq_eq_false_iff_ne.2 h2
    go_enter Tryz.func44, Tryz.ntmps44
    go_wp2
    go_ret
    exact ⟨ret_bool (by rw [hr.out]), hal.out⟩

/-- What count.order says of two blocks. -/
def cmpB (x y : Blk) : Int := if lessB x y = true then -1 else if lessB y x = true then 1 else 0
theorem ltOf_cmpB (x y : Blk) : ltOf cmpB x y = lessB x y := by
  unfold ltOf cmpB
  cases h : lessB x y
  · cases h2 : lessB y x <;> simp
  · simp
theorem swo_cmpB : SWO (ltOf cmpB) where
  irrefl x := by rw [ltOf_cmpB]; exact less_irrefl x
  trans x y z h1 h2 := by rw [ltOf_cmpB] at *; exact less_on x y z h1 h2
  ntrans x y z h1 h2 := by
    rw [ltOf_cmpB] at *
    cases h3 : lessB x z with
    | false => rfl
    | true =>
      exfalso
      rcases less_one x y with ⟨h, _, _⟩ | ⟨_, h, _⟩ | ⟨_, _, h⟩
      · rw [h1] at h; cases h
      · have := less_on y x z h h3
        rw [h2] at this; cases this
      · rw [less_key h ⟨rfl, rfl⟩, h2] at h3; cases h3

theorem cells3_new (w : World) (a b c : Value) (t : TypeId) : (w.alloc (.cells #[a, b, c] t)).cell? ⟨w.heap.size, 0, none⟩ = some a ∧ (w.alloc (.cells #[a, b, c] t)).cell? ⟨w.heap.size, 1, none⟩ = some b ∧ (w.alloc (.cells #[a, b, c] t)).cell? ⟨w.heap.size, 2, none⟩ = some c := by
  have h := heap_alloc_new w (.cells #[a, b, c] t)
  refine ⟨?_, ?_, ?_⟩ <;> (rw [cell_of_row _ _ _ _ _ _ h]; rfl)
theorem below_grows (w : World) (q : Nat) (os : Array Obj) : Below w.heap.size w (grow (w.drewN q) os) :=
  ⟨rfl, rfl, rfl, by simp [grow, World.drewN], fun k hk => by
    show (w.heap ++ os)[k]? = _
    rw [Array.getElem?_append_left hk]⟩
theorem grow_more (w : World) (q q2 : Nat) (os o2 : Array Obj) : ∃ q' os', grow ((grow (w.drewN q) os).drewN q2) o2 = grow (w.drewN q') os' := ⟨q + q2, os ++ o2, by simp [grow, World.drewN, Nat.add_assoc, Array.append_assoc]⟩
theorem cell_kept {w w' : World} {p : Addr} {v : Value} (h : Below w.heap.size w w') (hc : w.cell? p = some v) : w'.cell? p = some v := (h.cell (World.block_lt_of_cell? w _ hc)).trans hc
theorem grow_cell {w : World} {p : Addr} {v : Value} (q : Nat) (os : Array Obj) (h : w.cell? p = some v) : (grow (w.drewN q) os).cell? p = some v := cell_kept (below_grows w q os) h

set_option maxRecDepth 100000 in
set_option maxHeartbeats 4000000 in
theorem order_lays (x y : Blk) (w : World) :
    Calls Tryz.prog 35 #[.agg (blkCell x).toArray, .agg (blkCell y).toArray] w fun e w' => e = .returned (.int .i64 (cmpB x y)) ∧ ∃ q os, w' = grow (w.drewN q) os := by
  obtain ⟨x1, x2, x3⟩ := x
  obtain ⟨y1, y2, y3⟩ := y
  show Calls Tryz.prog 35 #[.agg #[.string x1, .string x2, .int .i64 x3], .agg #[.string y1, .string y2, .int .i64 y3]] w _
  have c1 := fun w => less_lays x1 x2 y1 y2 x3 y3 w
  have c2 := fun w => less_lays y1 y2 x1 x2 y3 x3 w
  obtain ⟨r, hr⟩ : ∃ r, cmpB (x1, x2, x3) (y1, y2, y3) = r := ⟨_, rfl⟩
  rw [hr]
  unfold cmpB at hr
  obtain ⟨l1, hl1⟩ : ∃ z, lessB (x1, x2, x3) (y1, y2, y3) = z := ⟨_, rfl⟩
  obtain ⟨l2, hl2⟩ : ∃ z, lessB (y1, y2, y3) (x1, x2, x3) = z := ⟨_, rfl⟩
  rw [hl1, hl2] at hr
  simp only [hl1] at c1
  simp only [hl2] at c2
  have HR := Lib.hid hr; have C1 := Lib.hid c1; have C2 := Lib.hid c2
  clear hr c1 c2 hl1 hl2
  obtain ⟨a0, a1, a2⟩ := cells3_new w (.string x1) (.string x2) (.int .i64 x3) 34
  obtain ⟨W1, hW1⟩ : ∃ z, w.alloc (.cells #[.string x1, .string x2, .int .i64 x3] 34) = z := ⟨_, rfl⟩
  obtain ⟨b0, b1, b2⟩ := cells3_new W1 (.string y1) (.string y2) (.int .i64 y3) 34
  rw [hW1] at a0 a1 a2
  have hb1 : Below W1.heap.size W1 (W1.alloc (.cells #[.string y1, .string y2, .int .i64 y3] 34)) := (Below.refl _ _).alloc (Nat.le_refl _) _
  have a0' := cell_kept hb1 a0; have a1' := cell_kept hb1 a1; have a2' := cell_kept hb1 a2
  have hs : W1.heap.size = w.heap.size + 1 := by rw [← hW1]; simp
  obtain ⟨W2, hW2⟩ : ∃ z, W1.alloc (.cells #[.string y1, .string y2, .int .i64 y3] 34) = z := ⟨_, rfl⟩
  rw [hW2] at a0' a1' a2' b0 b1 b2
  rw [hs] at b0 b1 b2
  have hg : Hid (W2 = grow (w.drewN 0) #[.cells #[.string x1, .string x2, .int .i64 x3] 34, .cells #[.string y1, .string y2, .int .i64 y3] 34]) := Lib.hid (by rw [← hW2, ← hW1, alloc_eq_grow, alloc_eq_grow, grow_grow]; rfl)
  have HW2 : Hid ((w.alloc (.cells #[.string x1, .string x2, .int .i64 x3] 34)).alloc (.cells #[.string y1, .string y2, .int .i64 y3] 34) = W2) := Lib.hid (by rw [hW1, hW2])
  clear a0 a1 a2 hb1 hs hW1 hW2
  go_enter Tryz.func35, Tryz.ntmps35
  go_wp2_with fail
  rw [HW2.out]
  refine (C1.out _).mono ?_
  rintro e w1 ⟨rfl, q1, o1, hw1⟩
  have g1 : Hid (∃ q os, w1 = grow (w.drewN q) os) := Lib.hid (by rw [hw1, hg.out]; exact grow_more _ _ _ _ _)
  have d0 : w1.cell? ⟨w.heap.size, 0, none⟩ = some (.string x1) := by rw [hw1]; exact grow_cell _ _ a0'
  have d1 : w1.cell? ⟨w.heap.size, 1, none⟩ = some (.string x2) := by rw [hw1]; exact grow_cell _ _ a1'
  have d2 : w1.cell? ⟨w.heap.size, 2, none⟩ = some (.int .i64 x3) := by rw [hw1]; exact grow_cell _ _ a2'
  have d3 : w1.cell? ⟨w.heap.size + 1, 0, none⟩ = some (.string y1) := by rw [hw1]; exact grow_cell _ _ b0
  have d4 : w1.cell? ⟨w.heap.size + 1, 1, none⟩ = some (.string y2) := by rw [hw1]; exact grow_cell _ _ b1
  have d5 : w1.cell? ⟨w.heap.size + 1, 2, none⟩ = some (.int .i64 y3) := by rw [hw1]; exact grow_cell _ _ b2
  clear hw1 a0' a1' a2' b0 b1 b2 hg HW2
  cases l1
  · go_wp2_with fail
    refine (C2.out _).mono ?_
    rintro e w2 ⟨rfl, q2, o2, hw2⟩
    have g2 : Hid (∃ q os, w2 = grow (w.drewN q) os) := Lib.hid (by
      obtain ⟨q, os, h⟩ := g1.out
      rw [hw2, h]; exact grow_more _ _ _ _ _)
    clear hw2 d0 d1 d2 d3 d4 d5
    cases l2
    · have hr : Hid (r = 0) := Lib.hid (by rw [← HR.out]; rfl)
      go_wp2
      go_ret
      exact ⟨by rw [hr.out]; rfl, g2.out⟩
    · have hr : Hid (r = 1) := Lib.hid (by rw [← HR.out]; rfl)
      go_wp2
      go_ret
      exact ⟨by rw [hr.out]; rfl, g2.out⟩
  · have hr : Hid (r = -1) := Lib.hid (by rw [← HR.out]; rfl)
    clear d0 d1 d2 d3 d4 d5
    go_wp2
    go_ret
    exact ⟨by rw [hr.out]; rfl, g1.out⟩

theorem cmp_lays (blk off size : Nat) (w : World) : CmpLays Tryz.prog 35 #[] blkCell 3 cmpB blk off size w :=
  fun _ _ _ _ x y => order_lays x y _

instance : Inhabited Blk := ⟨(ByteArray.empty, ByteArray.empty, 0)⟩
/-- slices.SortFunc over blocks: what was there, in order. -/
theorem sort_any (blk off cap : Nat) (d : Array Blk) (w : World) (hH : HoldsK blkCell 3 w blk off d) (hblk : blk < w.heap.size) (hsz : d.size < 4611686018427387904) :
    Calls Tryz.prog 34 #[.slice (some ⟨blk, off, none⟩) d.size cap, .func (.func 35) #[] #[]] w fun e w' =>
      e = .returned (.tuple #[]) ∧ ∃ d' n os, PermIn 0 d.size d d' ∧ SortedIn (ltOf cmpB) 0 d.size d' ∧ w' = sortWorldK blkCell 3 w blk off n d' os :=
  AnyQ.slices_SortFunc Tryz.sortB 3 Tryz.isAgg34 Tryz.sizeOf34 blkCell (fun _ => rfl) blk_one cmpB swo_cmpB 35 #[] blk off cap d w (enters_of Tryz.func35 (by kernel_rfl) rfl) (cmp_lays _ _ _ _) hH hblk hsz
end Go.Proofs.YtnognphjndpgkaaGreatDoor

/- Rules, plain: sorted by their sides, then by their cost, and each side kept once: the rules made normal; where a rule stands. -/
namespace Go.Proofs.YtnognphjndpgkaaGreatDoor
open Go.RowKit Go.Shelf Go.Lib
open Go.Sort (SWO)

/-- What rule.cheaper says of two rules. -/
def cmpR (x y : Blk) : Int := if cmpB x y = 0 then compareInt x.2.2 y.2.2 else cmpB x y
def ltR (x y : Blk) : Bool := lessB x y || (!lessB y x && decide (x.2.2 < y.2.2))
theorem ltOf_cmpR (x y : Blk) : ltOf cmpR x y = ltR x y := by
  unfold ltOf cmpR cmpB ltR compareInt
  cases h : lessB x y
  · cases h2 : lessB y x
    · by_cases h3 : x.2.2 < y.2.2
      · simp [h3]
      · by_cases h4 : y.2.2 < x.2.2
        · simp [h3, h4]
        · simp [h3, h4]
    · simp
  · simp
theorem ltR_iff (x y : Blk) : ltR x y = true ↔ lessB x y = true ∨ (sameS x y ∧ x.2.2 < y.2.2) := by
  unfold ltR
  rcases less_one x y with ⟨h1, h2, h3⟩ | ⟨h1, h2, h3⟩ | ⟨h1, h2, h3⟩
  · simp [h1]
  · simp [h1, h2, h3]
  · simp [h1, h2, h3]
theorem ltR_no (x y : Blk) : ltR x y = false ↔ lessB x y = false ∧ (sameS x y → y.2.2 ≤ x.2.2) := by
  rw [← Bool.not_eq_true, ltR_iff]
  constructor
  · intro h
    refine ⟨Bool.not_eq_true _ ▸ (fun e => h (.inl e)), fun e => Int.not_lt.1 (fun h2 => h (.inr ⟨e, h2⟩))⟩
  · rintro ⟨h1, h2⟩ (h | ⟨h, h3⟩)
    · rw [h1] at h; cases h
    · have := h2 h; omega
theorem swo_cmpR : SWO (ltOf cmpR) where
  irrefl x := by rw [ltOf_cmpR, ltR_no]; exact ⟨less_irrefl x, fun _ => Int.le_refl _⟩
  trans x y z h1 h2 := by
    rw [ltOf_cmpR, ltR_iff] at *
    rcases h1 with h1 | ⟨h1, c1⟩
    · rcases h2 with h2 | ⟨h2, c2⟩
      · exact .inl (less_on x y z h1 h2)
      · exact .inl (by rw [← less_key (a := x) (b := y) ⟨rfl, rfl⟩ h2]; exact h1)
    · rcases h2 with h2 | ⟨h2, c2⟩
      · exact .inl (by rw [less_key h1 ⟨rfl, rfl⟩]; exact h2)
      · exact .inr ⟨⟨h1.1.trans h2.1, h1.2.trans h2.2⟩, by omega⟩
  ntrans x y z h1 h2 := by
    rw [ltOf_cmpR, ltR_no] at *
    obtain ⟨a1, c1⟩ := h1
    obtain ⟨a2, c2⟩ := h2
    have a3 : lessB x z = false := by
      have := swo_cmpB.ntrans x y z (by rw [ltOf_cmpB]; exact a1) (by rw [ltOf_cmpB]; exact a2)
      rwa [ltOf_cmpB] at this
    refine ⟨a3, fun e => ?_⟩
    rcases less_one x y with ⟨h, _, _⟩ | ⟨_, h, _⟩ | ⟨_, _, h⟩
    · rw [a1] at h; cases h
    · rw [← less_key (a := y) (b := z) (c := y) (d := x) ⟨rfl, rfl⟩ (sameS_symm e), a2] at h; cases h
    · have k1 := c1 h
      have k2 := c2 ⟨h.1.symm.trans e.1, h.2.symm.trans e.2⟩
      omega

/-- Each side kept once: what has the sides of the one ahead of it is left out. -/
def cptF (p : Blk) : List Blk → List Blk
  | [] => []
  | x :: t => if sameS x p then cptF x t else x :: cptF x t
def cpt : List Blk → List Blk
  | [] => []
  | x :: t => x :: cptF x t
theorem cptF_snoc (l : List Blk) (p y x : Blk) : cptF p (l ++ [y] ++ [x]) = cptF p (l ++ [y]) ++ if sameS x y then [] else [x] := by
  induction l generalizing p with
  | nil =>
    show cptF p [y, x] = cptF p [y] ++ _
    simp only [cptF]
    split <;> split <;> rfl
  | cons a l ih =>
    show cptF p (a :: (l ++ [y] ++ [x])) = cptF p (a :: (l ++ [y])) ++ _
    rw [cptF, cptF]
    split
    · exact ih a
    · rw [ih a]; rfl
theorem cpt_snoc (l : List Blk) (y x : Blk) : cpt (l ++ [y] ++ [x]) = cpt (l ++ [y]) ++ if sameS x y then [] else [x] := by
  cases l with
  | nil =>
    show cpt [y, x] = cpt [y] ++ _
    simp only [cpt, cptF]
    split <;> rfl
  | cons a l =>
    show a :: cptF a (l ++ [y] ++ [x]) = (a :: cptF a (l ++ [y])) ++ _
    rw [cptF_snoc]; rfl
/-- The next one. -/
theorem cpt_take {l : List Blk} (k : Nat) (y x : Blk) (hy : l[k]? = some y) (hx : l[k + 1]? = some x) : cpt (l.take (k + 1 + 1)) = cpt (l.take (k + 1)) ++ if sameS x y then [] else [x] := by
  rw [List.take_add_one (i := k + 1), hx, List.take_add_one (i := k), hy]
  exact cpt_snoc _ _ _
theorem cptF_mem (p : Blk) (l : List Blk) : ∀ z ∈ cptF p l, z ∈ l := by
  induction l generalizing p with
  | nil => intro z hz; exact hz
  | cons a l ih =>
    intro z hz
    rw [cptF] at hz
    split at hz
    · exact List.mem_cons_of_mem _ (ih a z hz)
    · rcases List.mem_cons.1 hz with rfl | hz
      · exact List.mem_cons_self
      · exact List.mem_cons_of_mem _ (ih a z hz)
theorem cpt_mem (l : List Blk) : ∀ z ∈ cpt l, z ∈ l := by
  cases l with
  | nil => intro z hz; exact hz
  | cons a l =>
    intro z hz
    rcases List.mem_cons.1 hz with rfl | hz
    · exact List.mem_cons_self
    · exact List.mem_cons_of_mem _ (cptF_mem a l z hz)
theorem cptF_len (p : Blk) (l : List Blk) : (cptF p l).length ≤ l.length := by
  induction l generalizing p with
  | nil => exact Nat.le_refl _
  | cons a l ih =>
    rw [cptF]
    split
    · have := ih a; simp only [List.length_cons]; omega
    · have := ih a; simp only [List.length_cons]; omega
theorem cpt_len (l : List Blk) : (cpt l).length ≤ l.length := by
  cases l with
  | nil => exact Nat.le_refl _
  | cons a l => have := cptF_len a l; simp only [cpt, List.length_cons]; omega
def SrtR (l : List Blk) : Prop := l.Pairwise (fun x y => ltR y x = false)
theorem cptF_ahead (x : Blk) (l : List Blk) (h : SrtR (x :: l)) : (∀ z ∈ cptF x l, lessB x z = true) ∧ Srt (cptF x l) ∧ ∀ k, lst (x :: cptF x l) k = lst (x :: l) k := by
  induction l generalizing x with
  | nil => exact ⟨fun z hz => by simp [cptF] at hz, trivial, fun k => rfl⟩
  | cons y l ih =>
    have h' : SrtR (y :: l) := (List.pairwise_cons.1 h).2
    obtain ⟨q1, q2, q3⟩ := ih y h'
    have hxy := (ltR_no y x).1 ((List.pairwise_cons.1 h).1 y (by simp))
    rw [cptF]
    by_cases e : sameS y x
    · rw [if_pos e]
      refine ⟨fun z hz => by rw [← less_key e (⟨rfl, rfl⟩ : sameS z z)]; exact q1 z hz, q2, fun k => ?_⟩
      have c := hxy.2 e
      have h3 := q3 k
      rw [lst_cons, lst_cons] at h3
      rw [lst_cons, lst_cons, lst_cons]
      by_cases ek : sameS x k
      · have ek' : sameS y k := ⟨e.1.trans ek.1, e.2.trans ek.2⟩
        rw [if_pos ek'] at h3 ⊢
        rw [if_pos ek'] at h3
        rw [if_pos ek, if_pos ek]
        omega
      · have ek' : ¬ sameS y k := fun h => ek ⟨e.1.symm.trans h.1, e.2.symm.trans h.2⟩
        rw [if_neg ek', if_neg ek'] at h3
        rw [if_neg ek, if_neg ek, if_neg ek']
        exact h3
    · rw [if_neg e]
      have hl : lessB x y = true := by
        rcases less_one x y with ⟨h, _, _⟩ | ⟨_, h, _⟩ | ⟨_, _, h⟩
        · exact h
        · rw [hxy.1] at h; cases h
        · exact absurd (sameS_symm h) e
      refine ⟨fun z hz => ?_, ⟨q1, q2⟩, fun k => ?_⟩
      · rcases List.mem_cons.1 hz with rfl | hz
        · exact hl
        · exact less_on x y z hl (q1 z hz)
      · rw [lst_cons, q3 k]; rfl
theorem cpt_facts (l : List Blk) (h : SrtR l) : Srt (cpt l) ∧ ∀ k, lst (cpt l) k = lst l k := by
  cases l with
  | nil => exact ⟨trivial, fun _ => rfl⟩
  | cons x l =>
    obtain ⟨q1, q2, q3⟩ := cptF_ahead x l h
    exact ⟨⟨q1, q2⟩, q3⟩
theorem lst_perm {l m : List Blk} (h : l.Perm m) (k : Blk) : lst l k = lst m k := by
  induction h with
  | nil => rfl
  | cons x _ ih => rw [lst_cons, lst_cons, ih]
  | swap x y l =>
    rw [lst_cons, lst_cons, lst_cons, lst_cons]
    split <;> split <;> omega
  | trans _ _ ih1 ih2 => rw [ih1, ih2]
/-- Sorted, each side once: the rules made normal. -/
theorem cpt_nrm {l d : List Blk} (hl : costB l) (hp : d.Perm l) (hs : SrtR d) : cpt d = nrm l := by
  obtain ⟨q1, q2⟩ := cpt_facts d hs
  exact nrm_uniq hl q1 (fun z hz => hl z (hp.subset (cpt_mem d z hz))) (fun k => by rw [q2 k, lst_perm hp])

theorem rchk_map_zero {l : List Blk} (h : ∀ x ∈ l.map rchk, x = 0) : rall l = 0 := rall_zero.2 (fun b hb => h _ (List.mem_map.2 ⟨b, hb, rfl⟩))
/-- The first that may not be. -/
theorem rall_first {l : List Blk} {z : List Int} {e : Int} (hz : ∀ x ∈ z, x = 0) (he : e ≠ 0) (h : z ++ [e] <+: l.map rchk) : rall l = e := by
  induction l generalizing z with
  | nil =>
    obtain ⟨t, ht⟩ := h
    simp at ht
  | cons a l ih =>
    obtain ⟨t, ht⟩ := h
    cases z with
    | nil =>
      have h1 : e = rchk a := by
        have := congrArg List.head? ht
        simpa using this
      rw [rall, if_neg (by rw [← h1]; exact he), h1]
    | cons y z =>
      have h1 : y = rchk a := by
        have := congrArg List.head? ht
        simpa using this
      have h2 : z ++ [e] ++ t = l.map rchk := by
        have := congrArg List.tail ht
        simpa using this
      rw [rall, if_pos (by rw [← h1]; exact hz y (by simp))]
      exact ih (fun x hx => hz x (by simp [hx])) ⟨t, h2⟩
theorem lst_of_srt {l : List Blk} (hs : Srt l) (hc : costB l) : ∀ r ∈ l, lst l r = r.2.2 := by
  induction l with
  | nil => simp
  | cons a l ih =>
    intro r hr
    rw [lst_cons]
    rcases List.mem_cons.1 hr with rfl | hr
    · have := (hc r (by simp)).2
      rw [if_pos ⟨rfl, rfl⟩, srt_cons_lst hs]; omega
    · rw [if_neg (less_not (hs.1 r hr)).2]
      exact ih hs.2 (fun z hz => hc z (by simp [hz])) r hr
/-- Only at its place a rule of these sides may stand. -/
theorem place_only {l : List Blk} (hs : Srt l) (k : Blk) {m : Nat} (h1 : ∀ j y, j < m → l[j]? = some y → lessB y k = true) (h2 : ∀ j y, m ≤ j → l[j]? = some y → lessB y k = false) : ∀ j y, l[j]? = some y → j ≠ m → ¬ sameS y k := fun j y hy hj e => by
  rcases Nat.lt_or_ge j m with h | h
  · exact (less_not (h1 j y h hy)).2 e
  · have hmj : m < j := by omega
    have hml : m < l.length := by have := (List.getElem?_eq_some_iff.1 hy).1; omega
    obtain ⟨z, hz⟩ : ∃ z, l[m]? = some z := ⟨_, List.getElem?_eq_getElem hml⟩
    have hpw : ∀ (l : List Blk), Srt l → ∀ (i j : Nat) (x y : Blk), i < j → l[i]? = some x → l[j]? = some y → lessB x y = true := by
      intro l
      induction l with
      | nil => intro _ i j x y _ h; simp at h
      | cons a l ih =>
        intro hs i j x y hij hx hy
        cases i with
        | zero =>
          obtain rfl : a = x := by simpa using hx
          cases j with
          | zero => omega
          | succ j => exact hs.1 y (List.mem_of_getElem? (by simpa using hy))
        | succ i =>
          cases j with
          | zero => omega
          | succ j => exact ih hs.2 i j x y (by omega) (by simpa using hx) (by simpa using hy)
    have h3 := hpw l hs m j z y hmj hz hy
    have h4 := h2 m z (Nat.le_refl _) hz
    rw [less_key (c := z) (d := y) ⟨rfl, rfl⟩ (sameS_symm e), h3] at h4
    cases h4
theorem rfind_at {l : List Blk} (hs : Srt l) (hc : costB l) (k : Blk) {m : Nat} (h1 : ∀ j y, j < m → l[j]? = some y → lessB y k = true) (h2 : ∀ j y, m ≤ j → l[j]? = some y → lessB y k = false) : (l[m]? = none → lst l k = 256) ∧ (∀ y, l[m]? = some y → (sameS y k → lst l k = y.2.2 ∧ y.2.2 ≠ 256) ∧ (¬ sameS y k → lst l k = 256)) := by
  have hne := place_only hs k h1 h2
  refine ⟨fun h => ?_, fun y hy => ⟨fun e => ?_, fun e => ?_⟩⟩
  · refine lst_none (fun b hb => ?_)
    obtain ⟨j, hj⟩ := List.getElem?_of_mem hb
    exact hne j b hj (fun e => by rw [e, h] at hj; cases hj)
  · have e1 : lst l k = lst l y := by
      have : ∀ l : List Blk, lst l k = lst l y := by
        intro l
        induction l with
        | nil => rfl
        | cons a l ih =>
          rw [lst_cons, lst_cons, ih]
          by_cases h : sameS a k
          · rw [if_pos h, if_pos ⟨h.1.trans e.1.symm, h.2.trans e.2.symm⟩]
          · rw [if_neg h, if_neg (fun h' => h ⟨h'.1.trans e.1, h'.2.trans e.2⟩)]
      exact this l
    have hm := List.mem_of_getElem? hy
    have := (hc y hm).2
    exact ⟨by rw [e1]; exact lst_of_srt hs hc y hm, by omega⟩
  · refine lst_none (fun b hb => ?_)
    obtain ⟨j, hj⟩ := List.getElem?_of_mem hb
    by_cases hjm : j = m
    · subst hjm
      rw [hy] at hj
      obtain rfl := Option.some.inj hj
      exact e
    · exact hne j b hj hjm
end Go.Proofs.YtnognphjndpgkaaGreatDoor

/- rule.sides, Check, Less, compare, cheaper: what each answers; where a sort asks, the world behind the call is told to the block. -/
namespace Go.Proofs.YtnognphjndpgkaaGreatDoor
open Go.RowKit Go.Shelf Go.Lib
open Go.Sort (grow alloc_eq_grow grow_grow)
set_option linter.unusedSimpArgs false
set_option linter.unusedVariables false

theorem blw_one (D : World) (o : Obj) : Below D.heap.size D (D.alloc o) := (Below.refl _ _).alloc (Nat.le_refl _) _
set_option maxRecDepth 100000 in
set_option maxHeartbeats 4000000 in
theorem sides_lays (a b : ByteArray) (N : Int) (w : World) :
    Calls Tryz.prog 17 #[.agg #[.string a, .string b, .int .i64 N]] w fun e w' => e = .returned (.agg #[.string a, .string b, .int .i64 1]) ∧ ∃ q os, w' = grow (w.drewN q) os := by
  have h1 : Hid (∀ o : Obj, ∃ q os, w.alloc o = grow (w.drewN q) os) := Lib.hid (fun o => ⟨0, _, by rw [alloc_eq_grow]; rfl⟩)
  have h2 : Hid (∀ o o' : Obj, ∃ q os, (w.alloc o).alloc o' = grow (w.drewN q) os) := Lib.hid (fun o o' => ⟨0, _, by rw [alloc_eq_grow, alloc_eq_grow, grow_grow]; rfl⟩)
  go_enter Tryz.func17, Tryz.ntmps17
  go_wp2
  refine bodyPost_ret (v := .agg #[.string a, .string b, .int .i64 1]) ?_ rfl ⟨rfl, h2.out _ _⟩
  simp [results, Tryz.f17, go_sem]

set_option maxRecDepth 100000 in
set_option maxHeartbeats 4000000 in
theorem rcheck_any (a b : ByteArray) (N : Int) (w : World) (hO : Okw w) (ha : a.size ≤ 2000000) (hb : b.size ≤ 2000000) :
    Calls Tryz.prog 9 #[.agg #[.string a, .string b, .int .i64 N]] w fun e w' => e = .returned (.int .i64 (rchk (a, b, N))) ∧ Below w.heap.size w w' := by
  have cs := fun w => sides_lays a b N w
  have c5 := fun w hO => chk_at (a, b, 1) (by show a.size * 4 ≤ _; omega) (by show b.size * 4 ≤ _; omega) w hO
  have hR : rchk (a, b, N) = if chkS (a, b, 1) = 0 then (if N < 1 ∨ 255 < N then 2 else 0) else chkS (a, b, 1) := rfl
  obtain ⟨res, hres⟩ : ∃ r, rchk (a, b, N) = r := ⟨_, rfl⟩
  obtain ⟨er, her⟩ : ∃ r, chkS (a, b, 1) = r := ⟨_, rfl⟩
  rw [hres] at hR ⊢
  rw [her] at hR
  simp only [her] at c5
  obtain ⟨a0, a1, a2⟩ := cells3_new w (.string a) (.string b) (.int .i64 N) 37
  have hal := blw_one w (.cells #[.string a, .string b, .int .i64 N] 37)
  have hlt : w.heap.size < (w.alloc (.cells #[.string a, .string b, .int .i64 N] 37)).heap.size := by simp
  obtain ⟨W1, hW1⟩ : ∃ z, w.alloc (.cells #[.string a, .string b, .int .i64 N] 37) = z := ⟨_, rfl⟩
  rw [hW1] at a0 a1 a2 hal hlt
  obtain ⟨bx, hbx⟩ : ∃ z, w.heap.size = z := ⟨_, rfl⟩
  rw [hbx] at a0 a1 a2 hlt
  have HW1 := Lib.hid hW1; have HBX := Lib.hid hbx; have HAL := Lib.hid hal; have CS := Lib.hid cs; have C5 := Lib.hid c5; have HR := Lib.hid hR; have HO1 : Hid (Okw W1) := Lib.hid (hO.below hal)
  clear hW1 hbx hal cs c5 hR hres her hO
  go_enter Tryz.func9, Tryz.ntmps9
  go_wp2_with fail
  rw [HW1.out]
  refine (CS.out _).mono ?_
  rintro e w1 ⟨rfl, q1, o1, hw1⟩
  have b1 : Below W1.heap.size W1 w1 := by rw [hw1]; exact below_grows _ _ _
  have K1 : Hid (Okw w1) := Lib.hid (HO1.out.below b1)
  have B1 := Lib.hid b1; clear b1 hw1
  go_wp2_with fail
  refine (C5.out _ K1.out).mono ?_
  rintro e w2 ⟨rfl, b2⟩
  have b12 := B1.out.trans (b2.mono B1.out.size)
  rw [HBX.out]
  have d2 := (b12.cell (p := ⟨bx, 2, none⟩) hlt).trans a2
  have B2 : Hid (Below w.heap.size w w2) := Lib.hid (HAL.out.trans (b12.mono HAL.out.size))
  clear b2 b12 a0 a1 a2 B1
  by_cases h0 : er = 0
  · subst h0
    by_cases h1 : N < 1
    · have hr : Hid (res = 2) := Lib.hid (by rw [HR.out, if_pos (by first | rfl | trivial), if_pos (.inl h1)])
      go_wp2
      go_ret
      exact ⟨by rw [hr.out]; rfl, B2.out⟩
    · by_cases h2 : 255 < N
      · have hr : Hid (res = 2) := Lib.hid (by rw [HR.out, if_pos (by first | rfl | trivial), if_pos (.inr h2)])
        go_wp2
        go_ret
        exact ⟨by rw [hr.out]; rfl, B2.out⟩
      · have hr : Hid (res = 0) := Lib.hid (by rw [HR.out, if_pos (by first | rfl | trivial), if_neg (by omega)])
        go_wp2
        go_ret
        exact ⟨by rw [hr.out]; rfl, B2.out⟩
  · have h0' : (er == 0) = false := by simpa using h0
    have hr : Hid (res = er) := Lib.hid (by rw [HR.out, if_neg h0])
    go_wp2
    go_ret
    exact ⟨by rw [hr.out]; rfl, B2.out⟩

/-- Two rules in their boxes. -/
structure TwoBox (w : World) (p : Nat) (x y : Blk) (w' : World) : Prop where
  a0 : w'.cell? ⟨p, 0, none⟩ = some (.string x.1)
  a1 : w'.cell? ⟨p, 1, none⟩ = some (.string x.2.1)
  a2 : w'.cell? ⟨p, 2, none⟩ = some (.int .i64 x.2.2)
  b0 : w'.cell? ⟨p + 1, 0, none⟩ = some (.string y.1)
  b1 : w'.cell? ⟨p + 1, 1, none⟩ = some (.string y.2.1)
  b2 : w'.cell? ⟨p + 1, 2, none⟩ = some (.int .i64 y.2.2)
  gr : ∃ q os, w' = grow (w.drewN q) os
theorem TwoBox.step {w w' w'' : World} {p : Nat} {x y : Blk} (h : TwoBox w p x y w') (hg : ∃ q os, w'' = grow (w'.drewN q) os) : TwoBox w p x y w'' := by
  obtain ⟨q, os, rfl⟩ := hg
  exact ⟨grow_cell _ _ h.a0, grow_cell _ _ h.a1, grow_cell _ _ h.a2, grow_cell _ _ h.b0, grow_cell _ _ h.b1, grow_cell _ _ h.b2, by obtain ⟨q', os', e⟩ := h.gr; rw [e]; exact grow_more _ _ _ _ _⟩
theorem twoBox (w : World) (x y : Blk) : TwoBox w w.heap.size x y ((w.alloc (.cells #[.string x.1, .string x.2.1, .int .i64 x.2.2] 37)).alloc (.cells #[.string y.1, .string y.2.1, .int .i64 y.2.2] 37)) := by
  obtain ⟨a0, a1, a2⟩ := cells3_new w (.string x.1) (.string x.2.1) (.int .i64 x.2.2) 37
  obtain ⟨b0, b1, b2⟩ := cells3_new (w.alloc (.cells #[.string x.1, .string x.2.1, .int .i64 x.2.2] 37)) (.string y.1) (.string y.2.1) (.int .i64 y.2.2) 37
  rw [World.size_alloc] at b0 b1 b2
  have hb := blw_one (w.alloc (.cells #[.string x.1, .string x.2.1, .int .i64 x.2.2] 37)) (.cells #[.string y.1, .string y.2.1, .int .i64 y.2.2] 37)
  exact ⟨cell_kept hb a0, cell_kept hb a1, cell_kept hb a2, b0, b1, b2, 0, _, by rw [alloc_eq_grow, alloc_eq_grow, grow_grow]; rfl⟩

end Go.Proofs.YtnognphjndpgkaaGreatDoor

/- slices.Clone over rules; strings of rules of the call's own. -/
namespace Go.Proofs.YtnognphjndpgkaaGreatDoor
open Go.RowKit Go.Shelf
set_option linter.unusedSimpArgs false
set_option linter.unusedVariables false

theorem info_rule : (Tryz.prog.info? 37).map (fun i => (i.zero, i.size, i.bytes)) = some (some (.agg #[.string ⟨#[]⟩, .string ⟨#[]⟩, .int .i64 0]), 3, 40) := by kernel_rfl
theorem rl_ln (x : Blk) : (blkCell x).length = 3 := rfl
theorem rl_one (x : Blk) : ∀ u ∈ blkCell x, u.oneCell' = true := by
  intro u hu
  simp only [blkCell, List.mem_cons, List.mem_nil_iff, or_false] at hu
  rcases hu with rfl | rfl | rfl <;> rfl
theorem own_litR (w : World) (b : Nat) (hb : b ≤ w.heap.size) : (w.alloc (.cells #[] 37)).ownsRow b 37 3 (.slice (some ⟨w.heap.size, 0, none⟩) 0 0) 0 [] :=
  ⟨by simp, .inr ⟨w.heap.size, 0, #[], rfl, hb, heap_alloc_new w _, Nat.le_refl _, by simp [maxLen], by simp, by simp⟩⟩
end Go.Proofs.YtnognphjndpgkaaGreatDoor

/- strings.Clone, count.renew: blocks get texts of their own; what they say stays. -/
namespace Go.Proofs.YtnognphjndpgkaaGreatDoor
open Go.RowKit Go.Shelf
set_option linter.unusedSimpArgs false
set_option linter.unusedVariables false

set_option maxRecDepth 100000 in
theorem clone_any (s : ByteArray) (w : World) (h : s.size ≤ 2000000) : Calls Tryz.prog 30 #[.string s] w fun e w' => e = .returned (.string s) ∧ Below w.heap.size w w' := by
  have c := Tryz.stringslite_Clone s w (by omega)
  have C := Lib.hid c; clear c
  go_enter Tryz.func30, Tryz.ntmps30
  go_wp2_with fail
  refine C.out.mono ?_
  rintro e w1 ⟨rfl, b1⟩
  have B1 := Lib.hid b1; clear b1
  go_wp2
  go_ret
  exact ⟨rfl, B1.out⟩

/-- A store of what is there. -/
theorem set_same {w : World} {g j : Nat} {u : Value} (h : w.cell? ⟨g, j, none⟩ = some u) : w.setCell ⟨g, j, none⟩ u = w := by
  have hm : (w.heap.modify g fun
      | .cells c elem frozen => .cells (if (⟨g, j, none⟩ : Addr).spot.isSome then c else c.setIfInBounds j u) elem frozen
      | o => o) = w.heap := by
    apply Array.ext
    · simp
    · intro i h1 h2
      rw [Array.getElem_modify]
      split
      · rename_i e
        subst e
        unfold World.cell? at h
        simp only at h
        rw [Array.getElem?_eq_getElem h2] at h
        generalize w.heap[g] = ob at h ⊢
        cases ob with
        | cells cs t fr =>
          simp only [Option.isSome_none] at h ⊢
          congr 1
          apply Array.ext
          · simp
          · intro k k1 k2
            simp only [Bool.false_eq_true, if_false]
            rw [Array.getElem_setIfInBounds]
            split
            · rename_i e
              subst e
              have h' : cs[j]? = some u := by simpa using h
              rw [Array.getElem?_eq_getElem k2] at h'
              exact (Option.some.inj h').symm
            · rfl
        | _ => rfl
      · rfl
  unfold World.setCell
  exact congrArg (fun hp => { w with heap := hp }) hm

/-- What the region keeps: the block in the row, its copy, all that is old. -/
structure RenK (w : World) (g p c : Nat) (x : Blk) (w' : World) : Prop where
  a0 : w'.cell? ⟨g, p, none⟩ = some (.string x.1)
  a1 : w'.cell? ⟨g, p + 1, none⟩ = some (.string x.2.1)
  b0 : w'.cell? ⟨c, 0, none⟩ = some (.string x.1)
  b1 : w'.cell? ⟨c, 1, none⟩ = some (.string x.2.1)
  f0 : w'.frozen? ⟨g, p, none⟩ = false
  f1 : w'.frozen? ⟨g, p + 1, none⟩ = false
  lt : g < w'.heap.size
  ltc : c < w'.heap.size
  bel : Below w.heap.size w w'
theorem RenK.step {w : World} {g p c : Nat} {x : Blk} {w' w'' : World} (h : RenK w g p c x w') (hb : Below w'.heap.size w' w'') : RenK w g p c x w'' :=
  ⟨(hb.cell (p := ⟨g, _, none⟩) h.lt).trans h.a0, (hb.cell (p := ⟨g, _, none⟩) h.lt).trans h.a1, (hb.cell (p := ⟨c, _, none⟩) h.ltc).trans h.b0, (hb.cell (p := ⟨c, _, none⟩) h.ltc).trans h.b1, (hb.frozen (p := ⟨g, _, none⟩) h.lt).trans h.f0, (hb.frozen (p := ⟨g, _, none⟩) h.lt).trans h.f1, Nat.lt_of_lt_of_le h.lt hb.size, Nat.lt_of_lt_of_le h.ltc hb.size, h.bel.trans (hb.mono h.bel.size)⟩

set_option maxRecDepth 100000 in
set_option maxHeartbeats 8000000 in
theorem renew_any (u : Value) (l : List Blk) (n : Nat) (w : World) (hn : l.length = n) (hg : BRuns w u l) (hsh : n = 0 ∨ ∃ g c, u = .slice (some ⟨g, 0, none⟩) n c ∧ ∀ j, j < n * 3 → w.frozen? ⟨g, j, none⟩ = false) (hl : n ≤ 2000000) (hz : szL l) :
    Calls Tryz.prog 36 #[u] w fun e w' => e = .returned (.tuple #[]) ∧ Below w.heap.size w w' := by
  obtain ⟨A, c, e⟩ := hg.slice
  subst e
  rw [hn] at hg hsh ⊢
  have HG := Lib.hid hg; have HO := Lib.hid hsh; have HN := Lib.hid hn; have HZ := Lib.hid hz
  clear hg hsh hn hz
  have CL := Lib.hid clone_any
  go_enter Tryz.func36, Tryz.ntmps36
  go_wp2
  go_loopw [6] (fun s6 wr => ∃ k : Nat, k ≤ n ∧ s6 = .int .i64 k ∧ Hid (Below w.heap.size w wr)) (fun s6 _ => n - (RowKit.intOf s6).toNat)
  case atStart => exact ⟨0, Nat.zero_le _, rfl, Lib.hid (Below.refl _ _)⟩
  case round =>
    obtain ⟨k, hkn, rfl, BW⟩ := hrel
    by_cases hk : k < n
    · have k1 : (k : Int) < (n : Int) := by omega
      obtain ⟨⟨p1, p2, p3⟩, hp⟩ : ∃ p, l[k]? = some p := ⟨_, List.getElem?_eq_getElem (by rw [HN.out]; exact hk)⟩
      obtain ⟨g, rfl, OW⟩ : ∃ g, A = some ⟨g, 0, none⟩ ∧ ∀ j, j < n * 3 → w.frozen? ⟨g, j, none⟩ = false := by
        rcases HO.out with h0 | ⟨g, c', e, hf⟩
        · omega
        · obtain ⟨e1, _, _⟩ := Value.slice.inj e
          exact ⟨g, e1, hf⟩
      obtain ⟨b'', o'', eb'', hglw, _⟩ := HG.out.cells HN.out (by omega)
      obtain rfl : g = b'' := by
        have := Option.some.inj eb''
        simp only [Addr.mk.injEq] at this
        exact this.1
      obtain ⟨b', o', eb, hglt, hc⟩ := (HG.out.below BW.out).cells HN.out (by omega)
      have eb1 := Option.some.inj eb
      simp only [Addr.mk.injEq] at eb1
      obtain ⟨rfl, rfl, _⟩ := eb1
      obtain ⟨g0, g1, g2⟩ := blk_cells hc hp
      simp only [Nat.zero_add] at g0 g1 g2
      have fr0 : wr.frozen? ⟨g, k * 3, none⟩ = false := (BW.out.frozen (p := ⟨g, _, none⟩) hglw).trans (OW (k * 3) (by omega))
      have fr1 : wr.frozen? ⟨g, k * 3 + 1, none⟩ = false := (BW.out.frozen (p := ⟨g, _, none⟩) hglw).trans (OW (k * 3 + 1) (by omega))
      have hz1 := HZ.out _ (List.mem_of_getElem? hp)
      simp only at hz1
      have hal : Below wr.heap.size wr (wr.alloc (.cells #[.string p1, .string p2, .int .i64 p3] 34)) := (Below.refl _ _).alloc (Nat.le_refl _) _
      have e3 := heap_alloc_new wr (.cells #[.string p1, .string p2, .int .i64 p3] 34)
      obtain ⟨wa, hwa⟩ : ∃ z, wr.alloc (.cells #[.string p1, .string p2, .int .i64 p3] 34) = z := ⟨_, rfl⟩
      rw [hwa] at hal e3
      obtain ⟨bx, hbx⟩ : ∃ z, wr.heap.size = z := ⟨_, rfl⟩
      rw [hbx] at e3
      have c0 := cell_of_row wa bx 0 _ _ _ e3
      have c1 := cell_of_row wa bx 1 _ _ _ e3
      simp at c0 c1
      have KA : Hid (RenK w g (k * 3) bx (p1, p2, p3) wa) := Lib.hid ⟨(hal.cell (p := ⟨g, _, none⟩) hglt).trans g0, (hal.cell (p := ⟨g, _, none⟩) hglt).trans g1, c0, c1, (hal.frozen (p := ⟨g, _, none⟩) hglt).trans fr0, (hal.frozen (p := ⟨g, _, none⟩) hglt).trans fr1, Nat.lt_of_lt_of_le hglt hal.size, (Array.getElem?_eq_some_iff.1 e3).1, BW.out.trans (hal.mono BW.out.size)⟩
      have KD : Hid (RenK w g (k * 3) bx (p1, p2, p3) wa.drew) := Lib.hid (KA.out.step (Below.refl _ _).drew)
      have HWA := Lib.hid hwa; have HBX := Lib.hid hbx
      have C1 := Lib.hid (fun w => CL.out p1 w hz1.1); have C2 := Lib.hid (fun w => CL.out p2 w hz1.2)
      clear hc hp OW eb eb'' hglw hal e3 hwa hbx c0 c1 fr0 fr1
      go_wp2
      rw [HWA.out, HBX.out]
      clear g0 g1 g2
      have g0 := KD.out.a0; have g1 := KD.out.a1; have c0 := KD.out.b0; have c1 := KD.out.b1; have f0 := KD.out.f0; have f1 := KD.out.f1
      simp only at g0 g1 c0 c1
      go_region_held3 (fun w' => w'.cell? ⟨g, k * 3, none⟩ = some (.string p1) ∧ w'.cell? ⟨g, k * 3 + 1, none⟩ = some (.string p2) ∧ w'.cell? ⟨bx, 0, none⟩ = some (.string p1) ∧ w'.cell? ⟨bx, 1, none⟩ = some (.string p2) ∧ w'.frozen? ⟨g, k * 3, none⟩ = false ∧ w'.frozen? ⟨g, k * 3 + 1, none⟩ = false ∧ Hid (RenK w g (k * 3) bx (p1, p2, p3) w'))
        (first | exact ⟨g0, g1, c0, c1, f0, f1, KD⟩ | exact ⟨HKn.out.a0, HKn.out.a1, HKn.out.b0, HKn.out.b1, HKn.out.f0, HKn.out.f1, HKn⟩ | (rw [set_same HKn.out.a0]; exact ⟨HKn.out.a0, HKn.out.a1, HKn.out.b0, HKn.out.b1, HKn.out.f0, HKn.out.f1, HKn⟩) | (rw [set_same HKn.out.a0, set_same HKn.out.a1]; exact ⟨HKn.out.a0, HKn.out.a1, HKn.out.b0, HKn.out.b1, HKn.out.f0, HKn.out.f1, HKn⟩) | (rw [set_same HKn.out.a1, set_same HKn.out.a0]; exact ⟨HKn.out.a0, HKn.out.a1, HKn.out.b0, HKn.out.b1, HKn.out.f0, HKn.out.f1, HKn⟩) | (rw [set_same HKn.out.a1]; exact ⟨HKn.out.a0, HKn.out.a1, HKn.out.b0, HKn.out.b1, HKn.out.f0, HKn.out.f1, HKn⟩) | (have HQ := (by assumption : Hid (RenK w g (k * 3) bx (p1, p2, p3) _)); rw [set_same HQ.out.a1]; exact ⟨HQ.out.a0, HQ.out.a1, HQ.out.b0, HQ.out.b1, HQ.out.f0, HQ.out.f1, HQ⟩) | (have HQ := (by assumption : Hid (RenK w g (k * 3) bx (p1, p2, p3) _)); rw [set_same HQ.out.a0]; exact ⟨HQ.out.a0, HQ.out.a1, HQ.out.b0, HQ.out.b1, HQ.out.f0, HQ.out.f1, HQ⟩) | go_keep)
        (first
          | (go_at_call 30; refine (C1.out _).mono ?_; rintro e w4 ⟨rfl, hb4⟩; have HKn := Lib.hid ((by assumption : Hid (RenK w g (k * 3) bx (p1, p2, p3) _)).out.step hb4); clear hb4)
          | (go_at_call 30; refine (C2.out _).mono ?_; rintro e w5 ⟨rfl, hb4⟩; have HKn := Lib.hid ((by assumption : Hid (RenK w g (k * 3) bx (p1, p2, p3) _)).out.step hb4); clear hb4))
      rename_i hHeld
      clear hHeld
      rw [set_same HKn.out.a0, set_same HKn.out.a1]
      have B5 : Hid (Below w.heap.size w w5) := Lib.hid HKn.out.bel
      clear g0 g1 c0 c1 f0 f1 KA KD
      go_wp2
      exact ⟨⟨k + 1, by omega, by go_num, B5⟩, by simp [RowKit.intOf]; omega⟩
    · obtain rfl : k = n := by omega
      go_wp2
      go_end0
      exact ⟨rfl, BW.out⟩
end Go.Proofs.YtnognphjndpgkaaGreatDoor

/- rule.renewed: the same rules, in memory of the call's own. -/
namespace Go.Proofs.YtnognphjndpgkaaGreatDoor
open Go.RowKit Go.Shelf
set_option linter.unusedSimpArgs false
set_option linter.unusedVariables false

theorem make_rules (w : World) (c : Nat) (hc : c ≤ 2000000) : ∃ w', (Instr.makeSlice 26 (.int .i64 0) (.int .i64 (c : Int))).run Tryz.prog w = .ok (.slice (some ⟨w.heap.size, 0, none⟩) 0 c) w' ∧
    w'.ownsRow w.heap.size 37 3 (.slice (some ⟨w.heap.size, 0, none⟩) 0 c) 0 [] ∧ w.grownBy w' none := by
  obtain ⟨i0, hi, hz0, hz1, hz2⟩ := info_parts info_rule
  exact run_make_own w w.heap.size 26 37 i0 _ 3 Tryz.underlying26 hi hz0 hz1 .i64 .i64 c (by rw [hz2]; omega) (by unfold maxLen; omega) (Nat.le_refl _)

/-- A call of a Go function, as one step of a region that draws its order. -/
theorem step_call_one {P : Program} {ops : Array Oper} {o : Oper} {a : Act} {w : World} {K : Act → World → Prop} {Q : Exit → Act → World → Prop} {E : Prop} (hgd : o.guard = none) (f : Nat) (x : Operand) (t : TypeId) (hop : o.op = .call { callee := .value (.func f), args := #[x], argTypes := #[t] })
    (eg : ∀ args w, (callFunc f args).run P w = .ok (.enter f args) w) {u : Value} (hx : a.eval x = u) {Post : Ending → World → Prop} (hc : Calls P f #[u] w Post) (h : ∀ e w', Post e w' → ∃ v, e = .returned v ∧ K (a.put o.dst v) w') :
    if Region.wanted o (yielded ops a.tmps) = true then Oper.wp P o a w K Q else E := by
  have hw : Region.wanted o (yielded ops a.tmps) = true := by simp [Region.wanted, hgd]
  rw [if_pos hw]
  unfold Oper.wp
  have he : (execOp a.eval o).run P w = .ok (.enter f #[u]) w := by
    have hf : a.eval (.func f) = .func (.func f) #[] #[] := rfl
    simp [execOp, hop, resolve, invoke, Deferred.ofValue, hf, hx, eg, Result.andThen]
  rw [he, Oper.upon_enter]
  refine hc.mono ?_
  intro e w' hp
  obtain ⟨v, rfl, hk⟩ := h e w' hp
  exact hk
/-- An append of rules onto an owned row, as one step of such a region. -/
theorem step_append_rules {ops : Array Oper} {o : Oper} {a : Act} {w : World} {K : Act → World → Prop} {Q : Exit → Act → World → Prop} {E : Prop} (hgd : o.guard = none) (s x : Operand) (base n : Nat) (xs : List Value) (ys : List Blk) {v u : Value}
    (hown : w.ownsRow base 37 3 v n xs) (hu : GRuns blkCell 3 w u ys) (ho : o.op = .call { callee := .builtin .append, args := #[s, x], argTypes := #[26, 26] }) (hty : o.type = 26) (hs : a.eval s = v) (hx : a.eval x = u)
    (hbase : base ≤ w.heap.size) (hlen : (n + ys.length) * 40 ≤ 140737488355328)
    (h : ∀ v' w', w'.ownsRow base 37 3 v' (n + ys.length) (xs ++ gCells blkCell ys) → w.grownBy w' v.ownBlock → (v'.ownBlock = v.ownBlock ∨ v'.ownBlock = some w.heap.size) → K (a.put o.dst v') w') : if Region.wanted o (yielded ops a.tmps) = true then Oper.wp Tryz.prog o a w K Q else E := by
  obtain ⟨v', w', hrun, h2, h3, h4⟩ := append_many (P := Tryz.prog) rl_ln rl_one info_rule rfl (by decide) (by decide) Tryz.underlying26 w base v n xs hown u ys hu hbase hlen
  exact step_append_run' hgd s x _ v u v' w' ho (by rw [hty]; exact hrun) hs hx (h v' w' h2 h3 h4)
/-- A rule in its box, and all that is old. -/
structure BoxK (D : World) (c : Nat) (x : Blk) (W : World) : Prop where
  b0 : W.cell? ⟨c, 0, none⟩ = some (.string x.1)
  b1 : W.cell? ⟨c, 1, none⟩ = some (.string x.2.1)
  b2 : W.cell? ⟨c, 2, none⟩ = some (.int .i64 x.2.2)
  lt : c < W.heap.size
  bel : Below D.heap.size D W
theorem BoxK.step {D : World} {c : Nat} {x : Blk} {W W' : World} (h : BoxK D c x W) (hb : Below W.heap.size W W') : BoxK D c x W' :=
  ⟨(hb.cell (p := ⟨c, _, none⟩) h.lt).trans h.b0, (hb.cell (p := ⟨c, _, none⟩) h.lt).trans h.b1, (hb.cell (p := ⟨c, _, none⟩) h.lt).trans h.b2, Nat.lt_of_lt_of_le h.lt hb.size, h.bel.trans (hb.mono h.bel.size)⟩
theorem rule_litR (w : World) (x : Blk) : GRuns blkCell 3 (w.alloc (.cells #[.string x.1, .string x.2.1, .int .i64 x.2.2] 37)) (.slice (some ⟨w.heap.size, 0, none⟩) 1 1) [x] := by
  have e0 := heap_alloc_new w (.cells #[.string x.1, .string x.2.1, .int .i64 x.2.2] 37)
  refine ⟨_, 1, rfl, Nat.le_refl _, ⟨by simp [maxLen], fun h => by cases h⟩, fun _ => ⟨w.heap.size, 0, rfl, by simp, fun j z hj i u hu => ?_⟩⟩
  obtain rfl : j = 0 := by have := (List.getElem?_eq_some_iff.1 hj).1; simpa using this
  obtain rfl : x = z := by simpa using hj
  rw [cell_of_row _ _ _ _ _ (0, 0) e0]
  simpa [blkCell] using hu

set_option maxRecDepth 100000 in
set_option maxHeartbeats 8000000 in
theorem renewed_any (u : Value) (l : List Blk) (w : World) (hu : BRuns w u l) (hl : l.length ≤ 2000000) (hz : szL l) :
    Calls Tryz.prog 15 #[u] w fun e w' => ∃ v, e = .returned v ∧ w'.ownsRow w.heap.size 37 3 v l.length (gCells blkCell l) ∧ Below w.heap.size w w' := by
  obtain ⟨A, c, e⟩ := hu.slice
  subst e
  obtain ⟨n, hn⟩ : ∃ n, l.length = n := ⟨_, rfl⟩
  have hfin : gCells blkCell l = gCells blkCell (l.take l.length) := by rw [List.take_length]
  rw [hfin, hn]
  rw [hn] at hu hl
  obtain ⟨w1, hr1, ho1, hg1⟩ := make_rules w n hl
  have hb1 : Below w.heap.size w w1 := (Below.refl w.heap.size w).grown hg1 (Nat.le_refl _) (fun k hk => by cases hk)
  have HU := Lib.hid hu; have HN := Lib.hid hn; have HZ := Lib.hid hz; have HO1 := Lib.hid ho1; have HB1 := Lib.hid hb1
  have CL := Lib.hid clone_any
  clear hu hn hz ho1 hb1 hg1 hfin
  go_enter Tryz.func15, Tryz.ntmps15
  have eg : ∀ args w, (callFunc 30 args).run Tryz.prog w = .ok (.enter 30 args) w := enters_of Tryz.func30 (by kernel_rfl) rfl
  have hmix : Tryz.prog.follows .mixedOrders = true := by kernel_rfl
  have HEG := Lib.hid eg; clear eg
  go_wp2
  go_loopw [3, 11] (fun s3 s11 wr => ∃ k : Nat, k ≤ n ∧ s11 = .int .i64 k ∧ Hid (wr.ownsRow w.heap.size 37 3 s3 k (gCells blkCell (l.take k))) ∧ Hid (Below w.heap.size w wr)) (fun _ s11 _ => n - (RowKit.intOf s11).toNat)
  case atStart => exact ⟨0, Nat.zero_le _, rfl, HO1, HB1⟩
  case round =>
    obtain ⟨k, hkn, rfl, HO, BW⟩ := hrel
    by_cases hk : k < n
    · have k1 : (k : Int) < (n : Int) := by omega
      obtain ⟨⟨p1, p2, p3⟩, hp⟩ : ∃ p, l[k]? = some p := ⟨_, List.getElem?_eq_getElem (by rw [HN.out]; exact hk)⟩
      obtain ⟨b, o, rfl, _, hc⟩ := (HU.out.below BW.out).cells HN.out (by omega)
      obtain ⟨g0, g1, g2⟩ := blk_cells hc hp
      simp only at g0 g1 g2
      have hz1 := HZ.out _ (List.mem_of_getElem? hp)
      simp only at hz1
      have HNEXT : Hid (l.take (k + 1) = l.take k ++ [(p1, p2, p3)]) := Lib.hid (by rw [List.take_add_one, hp]; rfl)
      obtain ⟨t, ht⟩ : ∃ t, l.take k = t := ⟨_, rfl⟩
      rw [ht] at HO HNEXT
      have hte : t.length = k := by rw [← ht, List.length_take, HN.out]; omega
      have GR := GRuns.of_own rl_ln hte HO.out
      obtain ⟨A3, c3, e3⟩ := GR.slice
      rw [hte] at e3
      subst e3
      clear GR
      have hal := blw_one wr (.cells #[.string p1, .string p2, .int .i64 p3] 37)
      obtain ⟨e0, e1, e2⟩ := cells3_new wr (.string p1) (.string p2) (.int .i64 p3) 37
      have hltb : wr.heap.size < (wr.alloc (.cells #[.string p1, .string p2, .int .i64 p3] 37)).heap.size := by simp
      obtain ⟨wa, hwa⟩ : ∃ z, wr.alloc (.cells #[.string p1, .string p2, .int .i64 p3] 37) = z := ⟨_, rfl⟩
      rw [hwa] at hal e0 e1 e2 hltb
      obtain ⟨bx, hbx⟩ : ∃ z, wr.heap.size = z := ⟨_, rfl⟩
      rw [hbx] at e0 e1 e2 hltb
      have BA : Hid (Below w.heap.size w wa.drew) := Lib.hid (BW.out.trans (hal.mono BW.out.size)).drew
      have OA : Hid (wa.drew.ownsRow w.heap.size 37 3 (.slice A3 k c3) k (gCells blkCell t)) := Lib.hid (own_below HO.out hal.drew)
      have KA : Hid (BoxK wa.drew bx (p1, p2, p3) wa.drew) := Lib.hid ⟨e0, e1, e2, hltb, Below.refl _ _⟩
      have C1 := Lib.hid (fun w => CL.out p1 w hz1.1); have C2 := Lib.hid (fun w => CL.out p2 w hz1.2)
      have HWA := Lib.hid hwa; have HBX := Lib.hid hbx
      have SD : w.heap.size ≤ wa.drew.heap.size := BA.out.size
      clear hc hp hal hwa hbx ht hz1 HO hte
      have eg := HEG.out
      go_wp2
      rw [HWA.out, HBX.out]
      clear g0 g1 g2
      have d0 : wa.drew.cell? ⟨bx, 0, none⟩ = some (.string p1) := e0
      have d1 : wa.drew.cell? ⟨bx, 1, none⟩ = some (.string p2) := e1
      have d2 : wa.drew.cell? ⟨bx, 2, none⟩ = some (.int .i64 p3) := e2
      go_region_law (first
        | (refine step_call_one rfl 30 (.tmp 17) 9 rfl eg (by go_simp) (C1.out _) ?_; rintro e w18 ⟨rfl, hb18⟩; refine ⟨_, rfl, ?_⟩; have K18 : Hid (BoxK wa.drew bx (p1, p2, p3) w18) := Lib.hid (KA.out.step hb18); have x0 := K18.out.b0; have x1 := K18.out.b1; have x2 := K18.out.b2; simp only at x0 x1 x2; clear hb18)
        | (refine step_call_one rfl 30 (.tmp 20) 9 rfl eg (by go_simp) (C2.out _) ?_; rintro e w21 ⟨rfl, hb21⟩; refine ⟨_, rfl, ?_⟩; have K21 : Hid (BoxK wa.drew bx (p1, p2, p3) w21) := Lib.hid (K18.out.step hb21); have z0 := K21.out.b0; have z1 := K21.out.b1; have z2 := K21.out.b2; simp only at z0 z1 z2; clear hb21)
        | (refine step_append_rules rfl (.tmp 15) (.tmp 25) w.heap.size k (gCells blkCell t) [(p1, p2, p3)] (by exact own_below OA.out (K21.out.bel.trans ((blw_one _ _).mono K21.out.bel.size))) (by exact rule_litR _ (p1, p2, p3)) rfl rfl (by go_simp) (by go_simp) (by exact Nat.le_trans SD (K21.out.bel.trans ((blw_one _ _).mono K21.out.bel.size)).size) (by simp only [List.length_cons, List.length_nil]; omega) ?_; intro v26 w26 h26 k26 j26; have O26 : Hid (w26.ownsRow w.heap.size 37 3 v26 (k + 1) (gCells blkCell (t ++ [(p1, p2, p3)]))) := Lib.hid (by rw [gCells_append]; exact h26); have B26 : Hid (Below w.heap.size w w26) := Lib.hid ((BA.out.trans ((K21.out.bel.trans ((blw_one _ _).mono K21.out.bel.size)).mono SD)).grown k26 (by exact Nat.le_trans SD (K21.out.bel.trans ((blw_one _ _).mono K21.out.bel.size)).size) (fun q hq => (OA.out.lt q hq).1)); clear h26 k26 j26))
      all_goals
        go_wp2
        exact ⟨⟨k + 1, by omega, by go_num, Lib.hid (by rw [HNEXT.out]; exact O26.out), B26⟩, by simp [RowKit.intOf]; omega⟩
    · obtain rfl : k = n := by omega
      go_wp2
      go_ret
      exact ⟨_, rfl, HO.out, BW.out⟩
end Go.Proofs.YtnognphjndpgkaaGreatDoor

/- How often a sixteenth of a doubling fits between two numbers: plain. -/
namespace Go.Proofs.YtnognphjndpgkaaGreatDoor

/-- The greatest k such that 2^k times b^16 isn't greater than a^16. -/
def rat (a b : Nat) : Nat := Nat.log2 (a ^ 16 / b ^ 16)

theorem le_rat {a b k : Nat} (hb : 1 ≤ b) (hab : b ≤ a) : k ≤ rat a b ↔ 2 ^ k * b ^ 16 ≤ a ^ 16 := by
  have hb16 : 0 < b ^ 16 := Nat.pow_pos hb
  have h1 : b ^ 16 ≤ a ^ 16 := Nat.pow_le_pow_left hab 16
  have hne : a ^ 16 / b ^ 16 ≠ 0 := by
    have := (Nat.le_div_iff_mul_le hb16).2 (show 1 * b ^ 16 ≤ a ^ 16 by rw [Nat.one_mul]; exact h1)
    omega
  unfold rat
  rw [Nat.le_log2 hne, Nat.le_div_iff_mul_le hb16]

theorem rat_eq {a b k : Nat} (hb : 1 ≤ b) (hab : b ≤ a) (h1 : 2 ^ k * b ^ 16 ≤ a ^ 16) (h2 : a ^ 16 < 2 ^ (k + 1) * b ^ 16) : rat a b = k := by
  have g1 := (le_rat hb hab).2 h1
  have g2 : ¬ (k + 1 ≤ rat a b) := fun h => Nat.not_le.2 h2 ((le_rat hb hab).1 h)
  omega

theorem rat_le {a b : Nat} (hb : 1 ≤ b) (hab : b ≤ a) : 2 ^ rat a b * b ^ 16 ≤ a ^ 16 := (le_rat hb hab).1 (Nat.le_refl _)
theorem rat_lt {a b : Nat} (hb : 1 ≤ b) (hab : b ≤ a) : a ^ 16 < 2 ^ (rat a b + 1) * b ^ 16 := by
  have := (le_rat (k := rat a b + 1) hb hab)
  by_cases h : 2 ^ (rat a b + 1) * b ^ 16 ≤ a ^ 16
  · have := this.2 h; omega
  · omega

theorem pow31 {a m : Nat} (h : a ≤ 2147483648) : a ^ m ≤ 2 ^ (31 * m) := by
  rw [Nat.pow_mul]
  exact Nat.pow_le_pow_left h m
theorem le31 {x m : Nat} (h : 2 ^ x ≤ 2 ^ (31 * m)) : x ≤ 31 * m := (Nat.pow_le_pow_iff_right (by decide)).1 h

/-- Steps of one sixteenth, from a bound on the number. -/
theorem rat_bound {a b : Nat} (hb : 1 ≤ b) (hab : b ≤ a) (ha : a ≤ 2147483648) : rat a b ≤ 496 := by
  have h := rat_le hb hab
  have h1 := pow31 (m := 16) ha
  have h2 : 2 ^ rat a b * 1 ≤ 2 ^ rat a b * b ^ 16 := Nat.mul_le_mul_left _ (Nat.pow_pos hb)
  rw [Nat.mul_one] at h2
  exact le31 (m := 16) (Nat.le_trans h2 (Nat.le_trans h h1))

theorem rat_congr {a b c d : Nat} {n : Nat} (hb : 1 ≤ b) (hab : b ≤ a) (hd : 1 ≤ d) (hdc : d ≤ c) (h : ∀ k, 2 ^ (k + n) * d ^ 16 ≤ c ^ 16 ↔ 2 ^ k * b ^ 16 ≤ a ^ 16) : rat c d = rat a b + n := by
  have e : ∀ k, k + n ≤ rat c d ↔ k ≤ rat a b := fun k => by rw [le_rat hd hdc, le_rat hb hab]; exact h k
  have g1 := (e (rat a b)).2 (Nat.le_refl _)
  have g2 := e (rat c d - n)
  omega

theorem rat_double {a b : Nat} (hb : 1 ≤ b) (hab : b ≤ a) : rat (2 * a) b = rat a b + 16 := by
  refine rat_congr hb hab hb (by omega) fun k => ?_
  rw [Nat.mul_pow, Nat.pow_add, Nat.mul_right_comm, Nat.mul_comm (2 ^ 16) (a ^ 16)]
  exact Nat.mul_le_mul_right_iff (by decide)

/-- The second number doubled: sixteen less. -/
theorem rat_half {a b : Nat} (hb : 1 ≤ b) (hab : 2 * b ≤ a) : rat a b = rat a (2 * b) + 16 := by
  refine rat_congr (by omega) hab hb (by omega) fun k => ?_
  rw [Nat.mul_pow, Nat.pow_add, Nat.mul_assoc]

theorem rat_mul {a b m : Nat} (hb : 1 ≤ b) (hab : b ≤ a) (hm : 1 ≤ m) : rat (m * a) (m * b) = rat a b := by
  refine (rat_congr (n := 0) hb hab (Nat.mul_pos hm hb) (Nat.mul_le_mul_left m hab) fun k => ?_)
  rw [Nat.mul_pow, Nat.mul_pow, Nat.add_zero, Nat.mul_left_comm]
  exact Nat.mul_le_mul_left_iff (Nat.pow_pos hm)

theorem rat_self {b : Nat} (hb : 1 ≤ b) : rat b b = 0 := by
  refine rat_eq hb (Nat.le_refl _) (by simp) ?_
  have : 0 < b ^ 16 := Nat.pow_pos hb
  generalize b ^ 16 = x at *
  omega

theorem rat_mono {a a' b : Nat} (hb : 1 ≤ b) (hab : b ≤ a) (h : a ≤ a') : rat a b ≤ rat a' b :=
  (le_rat hb (Nat.le_trans hab h)).2 (Nat.le_trans (rat_le hb hab) (Nat.pow_le_pow_left h 16))
theorem rat_anti {a b b' : Nat} (hb : 1 ≤ b) (h : b ≤ b') (hab : b' ≤ a) : rat a b' ≤ rat a b :=
  (le_rat hb (Nat.le_trans h hab)).2 (Nat.le_trans (Nat.mul_le_mul_left _ (Nat.pow_le_pow_left h 16)) (rat_le (Nat.le_trans hb h) hab))

theorem rat_parts {a b c : Nat} (hc : 1 ≤ c) (hcb : c ≤ b) (hba : b ≤ a) : rat a c = rat a b + rat b c ∨ rat a c = rat a b + rat b c + 1 := by
  have hb : 1 ≤ b := Nat.le_trans hc hcb
  have hca := Nat.le_trans hcb hba
  have h1 := rat_le hb hba
  have h2 := rat_le hc hcb
  have h3 := rat_lt hb hba
  have h4 := rat_lt hc hcb
  have g1 : rat a b + rat b c ≤ rat a c := by
    rw [le_rat hc hca, Nat.pow_add, Nat.mul_assoc]
    exact Nat.le_trans (Nat.mul_le_mul_left _ h2) h1
  have g2 : ¬ (rat a b + rat b c + 2 ≤ rat a c) := by
    rw [le_rat hc hca]
    refine Nat.not_le.2 (Nat.lt_of_lt_of_le h3 ?_)
    have e : 2 ^ (rat a b + rat b c + 2) * c ^ 16 = 2 ^ (rat a b + 1) * (2 ^ (rat b c + 1) * c ^ 16) := by
      rw [← Nat.mul_assoc, ← Nat.pow_add]
      congr 2
      omega
    rw [e]
    exact Nat.mul_le_mul_left _ (Nat.le_of_lt h4)
  omega

theorem rat_sixteen {a b : Nat} (hb : 1 ≤ b) (hab : b ≤ a) : 16 ≤ rat a b ↔ 2 * b ≤ a := by
  rw [le_rat hb hab, ← Nat.mul_pow]
  exact Nat.pow_le_pow_iff_left (by decide)
theorem rat_le_sixteen {a b : Nat} (hb : 1 ≤ b) (hab : b ≤ a) (h : a ≤ 2 * b) : rat a b ≤ 16 := by
  have := rat_mono hb hab h
  rw [rat_double hb (Nat.le_refl b), rat_self hb] at this
  omega
end Go.Proofs.YtnognphjndpgkaaGreatDoor

