/- Texts that several proofs of this seat share, one behind the other: RLawP DLess QPlain QChk QClone DRen QRen LPlain. -/
import Derived.Test.YtnognphjndpgkaaDoorPk7
import Derived.Test.YtnognphjndpgkaaDoorPk4
import Derived.Test.YtnognphjndpgkaaDoorPk5
import Derived.Shelf.SlSortCmp.WholeK
import Derived.Test.YtnognphjndpgkaaDoorShelf2
import Derived.Test.YtnognphjndpgkaaDoorShelf
import Derived.Test.YtnognphjndpgkaaDoorPk6
import Derived.Test.YtnognphjndpgkaaDoorPk2
import Derived.Lib.SliceRun
/- Rules, plain: what follows of normal rules. -/
namespace Go.Proofs.YtnognphjndpgkaaDoor
open Go.RowKit Go.Shelf

theorem foldR_keys (l out : List Blk) : ∀ z ∈ l.foldl (fun out b => insR b out) out, (∃ y ∈ l, sameS z y) ∨ ∃ y ∈ out, sameS z y := by
  induction l generalizing out with
  | nil => exact fun z hz => .inr ⟨z, hz, rfl, rfl⟩
  | cons b l ih =>
    intro z hz
    rcases ih (insR b out) z hz with ⟨y, hy, e⟩ | ⟨y, hy, e⟩
    · exact .inl ⟨y, by simp [hy], e⟩
    · rcases insR_keys b out y hy with e2 | ⟨y2, hy2, e2⟩
      · exact .inl ⟨b, by simp, e.1.trans e2.1, e.2.trans e2.2⟩
      · exact .inr ⟨y2, hy2, e.1.trans e2.1, e.2.trans e2.2⟩
theorem nrm_keys (l : List Blk) : ∀ z ∈ nrm l, ∃ y ∈ l, sameS z y := fun z hz => by
  rcases foldR_keys l [] z hz with h | ⟨y, hy, _⟩
  · exact h
  · simp at hy
theorem rchk_key {r s : Blk} (h : rchk r = 0) (e : sameS s r) (h1 : 1 ≤ s.2.2) (h2 : s.2.2 ≤ 255) : rchk s = 0 := by
  unfold rchk at h ⊢
  rw [e.1, e.2]
  split at h
  · rename_i h0
    rw [if_pos h0, if_neg (by omega)]
  · rename_i h0; exact absurd h h0
theorem nrm_chk {l : List Blk} (h : rall l = 0) : rall (nrm l) = 0 := rall_zero.2 (fun z hz => by
  obtain ⟨y, hy, e⟩ := nrm_keys l z hz
  have hc := nrm_cost (costB_of h) z hz
  exact rchk_key (rall_zero.1 h y hy) e hc.1 hc.2)
theorem insR_len (b : Blk) (l : List Blk) : (insR b l).length ≤ l.length + 1 := by
  induction l with
  | nil => simp [insR]
  | cons x t ih =>
    rw [insR]
    split
    · simp only [List.length_cons]; omega
    · split
      · simp
      · simp
theorem foldR_len (l out : List Blk) : (l.foldl (fun out b => insR b out) out).length ≤ out.length + l.length := by
  induction l generalizing out with
  | nil => simp
  | cons b l ih =>
    have h1 := ih (insR b out)
    have h2 := insR_len b out
    rw [List.foldl_cons, List.length_cons]; omega
theorem nrm_len (l : List Blk) : (nrm l).length ≤ l.length := by have := foldR_len l []; unfold nrm; simpa using this
theorem norE_facts {l : List Blk} (h : norE l = 0) : rall l = 0 ∧ (nrm l).length ≤ 4096 := by
  unfold norE at h
  split at h
  · rename_i h0
    split at h
    · cases h
    · exact ⟨h0, by omega⟩
  · rename_i h0; exact absurd h h0
theorem norE_of {l : List Blk} (h1 : rall l = 0) (h2 : (nrm l).length ≤ 4096) : norE l = 0 := by
  unfold norE; rw [if_pos h1, if_neg (by omega)]
theorem risS_of {l : List Blk} (h1 : rall l = 0) (h2 : Srt l) (h3 : l.length ≤ 4096) : risS l = 0 := by
  unfold risS; rw [if_pos h1, if_pos ((ordB_srt l).2 h2), if_neg (by omega)]
theorem risS_facts {l : List Blk} (h : risS l = 0) : rall l = 0 ∧ Srt l ∧ l.length ≤ 4096 := by
  unfold risS at h
  split at h
  · rename_i h0
    split at h
    · rename_i h1
      split at h
      · cases h
      · exact ⟨h0, (ordB_srt l).1 h1, by omega⟩
    · cases h
  · rename_i h0; exact absurd h h0
theorem nor_is {l : List Blk} (h : norE l = 0) : risS (norS l) = 0 := by
  obtain ⟨h1, h2⟩ := norE_facts h
  rw [norS, if_pos h]
  exact risS_of (nrm_chk h1) (nrm_srt (costB_of h1)) h2
theorem nor_no {l : List Blk} (h : norE l ≠ 0) : norS l = [] ∧ risS l ≠ 0 := by
  refine ⟨by rw [norS, if_neg h], fun h2 => h ?_⟩
  obtain ⟨q1, _, q3⟩ := risS_facts h2
  exact norE_of q1 (Nat.le_trans (nrm_len l) q3)
theorem nor_again {l : List Blk} (h : norE l = 0) : norE (norS l) = 0 ∧ norS (norS l) = norS l := by
  obtain ⟨h1, h2⟩ := norE_facts h
  have e : norS l = nrm l := by rw [norS, if_pos h]
  have hs : nrm (nrm l) = nrm l := nrm_self (nrm_cost (costB_of h1)) (nrm_srt (costB_of h1))
  rw [e]
  have h3 : norE (nrm l) = 0 := norE_of (nrm_chk h1) (by rw [hs]; exact h2)
  exact ⟨h3, by rw [norS, if_pos h3, hs]⟩
theorem rall_swap (a b : List Blk) : rall (a ++ b) = 0 ↔ rall (b ++ a) = 0 := by
  rw [rall_zero, rall_zero]
  constructor <;> exact fun h z hz => h z (by rcases List.mem_append.1 hz with h | h <;> simp [h])
theorem nor_swap (a b : List Blk) : (norE (a ++ b) = 0 ↔ norE (b ++ a) = 0) ∧ (norE (a ++ b) = 0 → norS (a ++ b) = norS (b ++ a)) := by
  have key : rall (a ++ b) = 0 → nrm (a ++ b) = nrm (b ++ a) := fun h => by
    have hc := costB_of h
    exact nrm_swap (fun z hz => hc z (by simp [hz])) (fun z hz => hc z (by simp [hz]))
  have h1 : norE (a ++ b) = 0 ↔ norE (b ++ a) = 0 := by
    constructor
    · intro h
      obtain ⟨q1, q2⟩ := norE_facts h
      exact norE_of ((rall_swap a b).1 q1) (by rw [← key q1]; exact q2)
    · intro h
      obtain ⟨q1, q2⟩ := norE_facts h
      have q3 := (rall_swap a b).2 q1
      exact norE_of q3 (by rw [key q3]; exact q2)
  refine ⟨h1, fun h => ?_⟩
  rw [norS, norS, if_pos h, if_pos (h1.1 h)]
  exact key (norE_facts h).1
theorem lst_mem {l : List Blk} : ∀ b ∈ l, lst l b ≤ b.2.2 := by
  induction l with
  | nil => simp
  | cons a l ih =>
    intro b hb
    rw [lst_cons]
    rcases List.mem_cons.1 hb with rfl | hb
    · rw [if_pos ⟨rfl, rfl⟩]; omega
    · have := ih b hb
      split <;> omega
/-- Each rule that was told is found, at the least cost that it was told with. -/
theorem nor_find {l : List Blk} (h : norE l = 0) : ∀ r ∈ l, lst (norS l) r = lst l r ∧ lst l r ≤ 255 := fun r hr => by
  obtain ⟨h1, _⟩ := norE_facts h
  have hc := costB_of h1
  rw [norS, if_pos h]
  refine ⟨nrm_lst hc r, ?_⟩
  have := lst_mem r hr
  have := (hc r hr).2
  omega
/-- Find's error. -/
def rfE (l : List Blk) (k : Blk) : Int := if risS l = 0 then (if lst l k = 256 then 10 else 0) else risS l
end Go.Proofs.YtnognphjndpgkaaDoor

/- block.Less and count.order: which of two blocks stands ahead, with the world behind the call told to the block; slices.SortFunc over blocks. -/
namespace Go.Proofs.YtnognphjndpgkaaDoor
open Go.RowKit Go.Shelf Go.Lib
open Go.Sort (grow alloc_eq_grow grow_grow SWO PermIn SortedIn HoldsK)

set_option maxRecDepth 100000 in
set_option maxHeartbeats 4000000 in
theorem less_lays (a b c d : ByteArray) (N M : Int) (w : World) :
    Calls Tryd.prog 30 #[.agg #[.string a, .string b, .int .i64 N], .agg #[.string c, .string d, .int .i64 M]] w fun e w' => e = .returned (.bool (lessB (a, b, N) (c, d, M))) ∧ ∃ q os, w' = grow (w.drewN q) os := by
  obtain ⟨res, hres⟩ : ∃ r, lessB (a, b, N) (c, d, M) = r := ⟨_, rfl⟩
  rw [hres]
  unfold lessB at hres
  simp only at hres
  have HR := Lib.hid hres; clear hres
  have hal : Hid (∃ q os, ((w.alloc (.cells #[.string a, .string b, .int .i64 N] 40)).alloc (.cells #[.string c, .string d, .int .i64 M] 40)) = grow (w.drewN q) os) := Lib.hid ⟨0, _, by rw [alloc_eq_grow, alloc_eq_grow, grow_grow]; rfl⟩
  by_cases h2 : a.toList = c.toList
  · have h1 : ¬ Op.bytesLess a.toList c.toList = true := by
      rw [h2, Go.Proofs.bytesLess_eq]
      simp [List.lt_irrefl]
    have hr : Hid (res = Op.bytesLess b.toList d.toList) := Lib.hid (by rw [← HR.out, if_neg h1, if_pos h2])
    obtain rfl := toList_ext h2
    clear h1 h2
    go_enter Tryd.func30, Tryd.ntmps30
    go_wp2
    go_ret
    exact ⟨ret_bool (by rw [hr.out]), hal.out⟩
  · have hr : Hid (res = Op.bytesLess a.toList c.toList) := Lib.hid (by
      rw [← HR.out, if_neg h2]
      cases Op.bytesLess a.toList c.toList <;> rfl)
    have h2' : (a.toList == c.toList) = false := beq_eq_false_iff_ne.2 h2
    go_enter Tryd.func30, Tryd.ntmps30
    go_wp2
    go_ret
    exact ⟨ret_bool (by rw [hr.out]), hal.out⟩

/-- What count.order says of two blocks. -/
def cmpB (x y : Blk) : Int := if lessB x y = true then -1 else if lessB y x = true then 1 else 0
theorem ltOf_cmpB (x y : Blk) : ltOf cmpB x y = lessB x y := by
  unfold ltOf cmpB
  cases h : lessB x y
  · cases h2 : lessB y x <;> simp
  · simp
theorem swo_cmpB : SWO (ltOf cmpB) where
  irrefl x := by rw [ltOf_cmpB]; exact less_irrefl x
  trans x y z h1 h2 := by rw [ltOf_cmpB] at *; exact less_on x y z h1 h2
  ntrans x y z h1 h2 := by
    rw [ltOf_cmpB] at *
    cases h3 : lessB x z with
    | false => rfl
    | true =>
      exfalso
      rcases less_one x y with ⟨h, _, _⟩ | ⟨_, h, _⟩ | ⟨_, _, h⟩
      · rw [h1] at h; cases h
      · have := less_on y x z h h3
        rw [h2] at this; cases this
      · rw [less_key h ⟨rfl, rfl⟩, h2] at h3; cases h3

theorem cells3_new (w : World) (a b c : Value) (t : TypeId) : (w.alloc (.cells #[a, b, c] t)).cell? ⟨w.heap.size, 0, none⟩ = some a ∧ (w.alloc (.cells #[a, b, c] t)).cell? ⟨w.heap.size, 1, none⟩ = some b ∧ (w.alloc (.cells #[a, b, c] t)).cell? ⟨w.heap.size, 2, none⟩ = some c := by
  have h := heap_alloc_new w (.cells #[a, b, c] t)
  refine ⟨?_, ?_, ?_⟩ <;> (rw [cell_of_row _ _ _ _ _ _ h]; rfl)
theorem below_grows (w : World) (q : Nat) (os : Array Obj) : Below w.heap.size w (grow (w.drewN q) os) :=
  ⟨rfl, rfl, rfl, by simp [grow, World.drewN], fun k hk => by
    show (w.heap ++ os)[k]? = _
    rw [Array.getElem?_append_left hk]⟩
theorem grow_more (w : World) (q q2 : Nat) (os o2 : Array Obj) : ∃ q' os', grow ((grow (w.drewN q) os).drewN q2) o2 = grow (w.drewN q') os' := ⟨q + q2, os ++ o2, by simp [grow, World.drewN, Nat.add_assoc, Array.append_assoc]⟩
theorem cell_kept {w w' : World} {p : Addr} {v : Value} (h : Below w.heap.size w w') (hc : w.cell? p = some v) : w'.cell? p = some v := (h.cell (World.block_lt_of_cell? w _ hc)).trans hc
theorem grow_cell {w : World} {p : Addr} {v : Value} (q : Nat) (os : Array Obj) (h : w.cell? p = some v) : (grow (w.drewN q) os).cell? p = some v := cell_kept (below_grows w q os) h

instance : Inhabited Blk := ⟨(ByteArray.empty, ByteArray.empty, 0)⟩
end Go.Proofs.YtnognphjndpgkaaDoor

/- Rules, plain: sorted by their sides, then by their cost, and each side kept once: the rules made normal; where a rule stands. -/
namespace Go.Proofs.YtnognphjndpgkaaDoor
open Go.RowKit Go.Shelf Go.Lib
open Go.Sort (SWO)

/-- What rule.cheaper says of two rules. -/
def cmpR (x y : Blk) : Int := if cmpB x y = 0 then compareInt x.2.2 y.2.2 else cmpB x y
def ltR (x y : Blk) : Bool := lessB x y || (!lessB y x && decide (x.2.2 < y.2.2))
theorem ltOf_cmpR (x y : Blk) : ltOf cmpR x y = ltR x y := by
  unfold ltOf cmpR cmpB ltR compareInt
  cases h : lessB x y
  · cases h2 : lessB y x
    · by_cases h3 : x.2.2 < y.2.2
      · simp [h3]
      · by_cases h4 : y.2.2 < x.2.2
        · simp [h3, h4]
        · simp [h3, h4]
    · simp
  · simp
theorem ltR_iff (x y : Blk) : ltR x y = true ↔ lessB x y = true ∨ (sameS x y ∧ x.2.2 < y.2.2) := by
  unfold ltR
  rcases less_one x y with ⟨h1, h2, h3⟩ | ⟨h1, h2, h3⟩ | ⟨h1, h2, h3⟩
  · simp [h1]
  · simp [h1, h2, h3]
  · simp [h1, h2, h3]
theorem ltR_no (x y : Blk) : ltR x y = false ↔ lessB x y = false ∧ (sameS x y → y.2.2 ≤ x.2.2) := by
  rw [← Bool.not_eq_true, ltR_iff]
  constructor
  · intro h
    refine ⟨Bool.not_eq_true _ ▸ (fun e => h (.inl e)), fun e => Int.not_lt.1 (fun h2 => h (.inr ⟨e, h2⟩))⟩
  · rintro ⟨h1, h2⟩ (h | ⟨h, h3⟩)
    · rw [h1] at h; cases h
    · have := h2 h; omega
theorem swo_cmpR : SWO (ltOf cmpR) where
  irrefl x := by rw [ltOf_cmpR, ltR_no]; exact ⟨less_irrefl x, fun _ => Int.le_refl _⟩
  trans x y z h1 h2 := by
    rw [ltOf_cmpR, ltR_iff] at *
    rcases h1 with h1 | ⟨h1, c1⟩
    · rcases h2 with h2 | ⟨h2, c2⟩
      · exact .inl (less_on x y z h1 h2)
      · exact .inl (by rw [← less_key (a := x) (b := y) ⟨rfl, rfl⟩ h2]; exact h1)
    · rcases h2 with h2 | ⟨h2, c2⟩
      · exact .inl (by rw [less_key h1 ⟨rfl, rfl⟩]; exact h2)
      · exact .inr ⟨⟨h1.1.trans h2.1, h1.2.trans h2.2⟩, by omega⟩
  ntrans x y z h1 h2 := by
    rw [ltOf_cmpR, ltR_no] at *
    obtain ⟨a1, c1⟩ := h1
    obtain ⟨a2, c2⟩ := h2
    have a3 : lessB x z = false := by
      have := swo_cmpB.ntrans x y z (by rw [ltOf_cmpB]; exact a1) (by rw [ltOf_cmpB]; exact a2)
      rwa [ltOf_cmpB] at this
    refine ⟨a3, fun e => ?_⟩
    rcases less_one x y with ⟨h, _, _⟩ | ⟨_, h, _⟩ | ⟨_, _, h⟩
    · rw [a1] at h; cases h
    · rw [← less_key (a := y) (b := z) (c := y) (d := x) ⟨rfl, rfl⟩ (sameS_symm e), a2] at h; cases h
    · have k1 := c1 h
      have k2 := c2 ⟨h.1.symm.trans e.1, h.2.symm.trans e.2⟩
      omega

/-- Each side kept once: what has the sides of the one ahead of it is left out. -/
def cptF (p : Blk) : List Blk → List Blk
  | [] => []
  | x :: t => if sameS x p then cptF x t else x :: cptF x t
def cpt : List Blk → List Blk
  | [] => []
  | x :: t => x :: cptF x t
theorem cptF_snoc (l : List Blk) (p y x : Blk) : cptF p (l ++ [y] ++ [x]) = cptF p (l ++ [y]) ++ if sameS x y then [] else [x] := by
  induction l generalizing p with
  | nil =>
    show cptF p [y, x] = cptF p [y] ++ _
    simp only [cptF]
    split <;> split <;> rfl
  | cons a l ih =>
    show cptF p (a :: (l ++ [y] ++ [x])) = cptF p (a :: (l ++ [y])) ++ _
    rw [cptF, cptF]
    split
    · exact ih a
    · rw [ih a]; rfl
theorem cpt_snoc (l : List Blk) (y x : Blk) : cpt (l ++ [y] ++ [x]) = cpt (l ++ [y]) ++ if sameS x y then [] else [x] := by
  cases l with
  | nil =>
    show cpt [y, x] = cpt [y] ++ _
    simp only [cpt, cptF]
    split <;> rfl
  | cons a l =>
    show a :: cptF a (l ++ [y] ++ [x]) = (a :: cptF a (l ++ [y])) ++ _
    rw [cptF_snoc]; rfl
/-- The next one. -/
theorem cpt_take {l : List Blk} (k : Nat) (y x : Blk) (hy : l[k]? = some y) (hx : l[k + 1]? = some x) : cpt (l.take (k + 1 + 1)) = cpt (l.take (k + 1)) ++ if sameS x y then [] else [x] := by
  rw [List.take_add_one (i := k + 1), hx, List.take_add_one (i := k), hy]
  exact cpt_snoc _ _ _
theorem cptF_mem (p : Blk) (l : List Blk) : ∀ z ∈ cptF p l, z ∈ l := by
  induction l generalizing p with
  | nil => intro z hz; exact hz
  | cons a l ih =>
    intro z hz
    rw [cptF] at hz
    split at hz
    · exact List.mem_cons_of_mem _ (ih a z hz)
    · rcases List.mem_cons.1 hz with rfl | hz
      · exact List.mem_cons_self
      · exact List.mem_cons_of_mem _ (ih a z hz)
theorem cpt_mem (l : List Blk) : ∀ z ∈ cpt l, z ∈ l := by
  cases l with
  | nil => intro z hz; exact hz
  | cons a l =>
    intro z hz
    rcases List.mem_cons.1 hz with rfl | hz
    · exact List.mem_cons_self
    · exact List.mem_cons_of_mem _ (cptF_mem a l z hz)
theorem cptF_len (p : Blk) (l : List Blk) : (cptF p l).length ≤ l.length := by
  induction l generalizing p with
  | nil => exact Nat.le_refl _
  | cons a l ih =>
    rw [cptF]
    split
    · have := ih a; simp only [List.length_cons]; omega
    · have := ih a; simp only [List.length_cons]; omega
theorem cpt_len (l : List Blk) : (cpt l).length ≤ l.length := by
  cases l with
  | nil => exact Nat.le_refl _
  | cons a l => have := cptF_len a l; simp only [cpt, List.length_cons]; omega
def SrtR (l : List Blk) : Prop := l.Pairwise (fun x y => ltR y x = false)
theorem cptF_ahead (x : Blk) (l : List Blk) (h : SrtR (x :: l)) : (∀ z ∈ cptF x l, lessB x z = true) ∧ Srt (cptF x l) ∧ ∀ k, lst (x :: cptF x l) k = lst (x :: l) k := by
  induction l generalizing x with
  | nil => exact ⟨fun z hz => by simp [cptF] at hz, trivial, fun k => rfl⟩
  | cons y l ih =>
    have h' : SrtR (y :: l) := (List.pairwise_cons.1 h).2
    obtain ⟨q1, q2, q3⟩ := ih y h'
    have hxy := (ltR_no y x).1 ((List.pairwise_cons.1 h).1 y (by simp))
    rw [cptF]
    by_cases e : sameS y x
    · rw [if_pos e]
      refine ⟨fun z hz => by rw [← less_key e (⟨rfl, rfl⟩ : sameS z z)]; exact q1 z hz, q2, fun k => ?_⟩
      have c := hxy.2 e
      have h3 := q3 k
      rw [lst_cons, lst_cons] at h3
      rw [lst_cons, lst_cons, lst_cons]
      by_cases ek : sameS x k
      · have ek' : sameS y k := ⟨e.1.trans ek.1, e.2.trans ek.2⟩
        rw [if_pos ek'] at h3 ⊢
        rw [if_pos ek'] at h3
        rw [if_pos ek, if_pos ek]
        omega
      · have ek' : ¬ sameS y k := fun h => ek ⟨e.1.symm.trans h.1, e.2.symm.trans h.2⟩
        rw [if_neg ek', if_neg ek'] at h3
        rw [if_neg ek, if_neg ek, if_neg ek']
        exact h3
    · rw [if_neg e]
      have hl : lessB x y = true := by
        rcases less_one x y with ⟨h, _, _⟩ | ⟨_, h, _⟩ | ⟨_, _, h⟩
        · exact h
        · rw [hxy.1] at h; cases h
        · exact absurd (sameS_symm h) e
      refine ⟨fun z hz => ?_, ⟨q1, q2⟩, fun k => ?_⟩
      · rcases List.mem_cons.1 hz with rfl | hz
        · exact hl
        · exact less_on x y z hl (q1 z hz)
      · rw [lst_cons, q3 k]; rfl
theorem cpt_facts (l : List Blk) (h : SrtR l) : Srt (cpt l) ∧ ∀ k, lst (cpt l) k = lst l k := by
  cases l with
  | nil => exact ⟨trivial, fun _ => rfl⟩
  | cons x l =>
    obtain ⟨q1, q2, q3⟩ := cptF_ahead x l h
    exact ⟨⟨q1, q2⟩, q3⟩
theorem lst_perm {l m : List Blk} (h : l.Perm m) (k : Blk) : lst l k = lst m k := by
  induction h with
  | nil => rfl
  | cons x _ ih => rw [lst_cons, lst_cons, ih]
  | swap x y l =>
    rw [lst_cons, lst_cons, lst_cons, lst_cons]
    split <;> split <;> omega
  | trans _ _ ih1 ih2 => rw [ih1, ih2]
/-- Sorted, each side once: the rules made normal. -/
theorem cpt_nrm {l d : List Blk} (hl : costB l) (hp : d.Perm l) (hs : SrtR d) : cpt d = nrm l := by
  obtain ⟨q1, q2⟩ := cpt_facts d hs
  exact nrm_uniq hl q1 (fun z hz => hl z (hp.subset (cpt_mem d z hz))) (fun k => by rw [q2 k, lst_perm hp])

theorem rchk_map_zero {l : List Blk} (h : ∀ x ∈ l.map rchk, x = 0) : rall l = 0 := rall_zero.2 (fun b hb => h _ (List.mem_map.2 ⟨b, hb, rfl⟩))
/-- The first that may not be. -/
theorem rall_first {l : List Blk} {z : List Int} {e : Int} (hz : ∀ x ∈ z, x = 0) (he : e ≠ 0) (h : z ++ [e] <+: l.map rchk) : rall l = e := by
  induction l generalizing z with
  | nil =>
    obtain ⟨t, ht⟩ := h
    simp at ht
  | cons a l ih =>
    obtain ⟨t, ht⟩ := h
    cases z with
    | nil =>
      have h1 : e = rchk a := by
        have := congrArg List.head? ht
        simpa using this
      rw [rall, if_neg (by rw [← h1]; exact he), h1]
    | cons y z =>
      have h1 : y = rchk a := by
        have := congrArg List.head? ht
        simpa using this
      have h2 : z ++ [e] ++ t = l.map rchk := by
        have := congrArg List.tail ht
        simpa using this
      rw [rall, if_pos (by rw [← h1]; exact hz y (by simp))]
      exact ih (fun x hx => hz x (by simp [hx])) ⟨t, h2⟩
theorem lst_of_srt {l : List Blk} (hs : Srt l) (hc : costB l) : ∀ r ∈ l, lst l r = r.2.2 := by
  induction l with
  | nil => simp
  | cons a l ih =>
    intro r hr
    rw [lst_cons]
    rcases List.mem_cons.1 hr with rfl | hr
    · have := (hc r (by simp)).2
      rw [if_pos ⟨rfl, rfl⟩, srt_cons_lst hs]; omega
    · rw [if_neg (less_not (hs.1 r hr)).2]
      exact ih hs.2 (fun z hz => hc z (by simp [hz])) r hr
/-- Only at its place a rule of these sides may stand. -/
theorem place_only {l : List Blk} (hs : Srt l) (k : Blk) {m : Nat} (h1 : ∀ j y, j < m → l[j]? = some y → lessB y k = true) (h2 : ∀ j y, m ≤ j → l[j]? = some y → lessB y k = false) : ∀ j y, l[j]? = some y → j ≠ m → ¬ sameS y k := fun j y hy hj e => by
  rcases Nat.lt_or_ge j m with h | h
  · exact (less_not (h1 j y h hy)).2 e
  · have hmj : m < j := by omega
    have hml : m < l.length := by have := (List.getElem?_eq_some_iff.1 hy).1; omega
    obtain ⟨z, hz⟩ : ∃ z, l[m]? = some z := ⟨_, List.getElem?_eq_getElem hml⟩
    have hpw : ∀ (l : List Blk), Srt l → ∀ (i j : Nat) (x y : Blk), i < j → l[i]? = some x → l[j]? = some y → lessB x y = true := by
      intro l
      induction l with
      | nil => intro _ i j x y _ h; simp at h
      | cons a l ih =>
        intro hs i j x y hij hx hy
        cases i with
        | zero =>
          obtain rfl : a = x := by simpa using hx
          cases j with
          | zero => omega
          | succ j => exact hs.1 y (List.mem_of_getElem? (by simpa using hy))
        | succ i =>
          cases j with
          | zero => omega
          | succ j => exact ih hs.2 i j x y (by omega) (by simpa using hx) (by simpa using hy)
    have h3 := hpw l hs m j z y hmj hz hy
    have h4 := h2 m z (Nat.le_refl _) hz
    rw [less_key (c := z) (d := y) ⟨rfl, rfl⟩ (sameS_symm e), h3] at h4
    cases h4
theorem rfind_at {l : List Blk} (hs : Srt l) (hc : costB l) (k : Blk) {m : Nat} (h1 : ∀ j y, j < m → l[j]? = some y → lessB y k = true) (h2 : ∀ j y, m ≤ j → l[j]? = some y → lessB y k = false) : (l[m]? = none → lst l k = 256) ∧ (∀ y, l[m]? = some y → (sameS y k → lst l k = y.2.2 ∧ y.2.2 ≠ 256) ∧ (¬ sameS y k → lst l k = 256)) := by
  have hne := place_only hs k h1 h2
  refine ⟨fun h => ?_, fun y hy => ⟨fun e => ?_, fun e => ?_⟩⟩
  · refine lst_none (fun b hb => ?_)
    obtain ⟨j, hj⟩ := List.getElem?_of_mem hb
    exact hne j b hj (fun e => by rw [e, h] at hj; cases hj)
  · have e1 : lst l k = lst l y := by
      have : ∀ l : List Blk, lst l k = lst l y := by
        intro l
        induction l with
        | nil => rfl
        | cons a l ih =>
          rw [lst_cons, lst_cons, ih]
          by_cases h : sameS a k
          · rw [if_pos h, if_pos ⟨h.1.trans e.1.symm, h.2.trans e.2.symm⟩]
          · rw [if_neg h, if_neg (fun h' => h ⟨h'.1.trans e.1, h'.2.trans e.2⟩)]
      exact this l
    have hm := List.mem_of_getElem? hy
    have := (hc y hm).2
    exact ⟨by rw [e1]; exact lst_of_srt hs hc y hm, by omega⟩
  · refine lst_none (fun b hb => ?_)
    obtain ⟨j, hj⟩ := List.getElem?_of_mem hb
    by_cases hjm : j = m
    · subst hjm
      rw [hy] at hj
      obtain rfl := Option.some.inj hj
      exact e
    · exact hne j b hj hjm
end Go.Proofs.YtnognphjndpgkaaDoor

/- rule.sides, Check, Less, compare, cheaper: what each answers; where a sort asks, the world behind the call is told to the block. -/
namespace Go.Proofs.YtnognphjndpgkaaDoor
open Go.RowKit Go.Shelf Go.Lib
open Go.Sort (grow alloc_eq_grow grow_grow)
set_option linter.unusedSimpArgs false
set_option linter.unusedVariables false

theorem blw_one (D : World) (o : Obj) : Below D.heap.size D (D.alloc o) := (Below.refl _ _).alloc (Nat.le_refl _) _
set_option maxRecDepth 100000 in
set_option maxHeartbeats 4000000 in
theorem sides_lays (a b : ByteArray) (N : Int) (w : World) :
    Calls Tryd.prog 28 #[.agg #[.string a, .string b, .int .i64 N]] w fun e w' => e = .returned (.agg #[.string a, .string b, .int .i64 1]) ∧ ∃ q os, w' = grow (w.drewN q) os := by
  have h1 : Hid (∀ o : Obj, ∃ q os, w.alloc o = grow (w.drewN q) os) := Lib.hid (fun o => ⟨0, _, by rw [alloc_eq_grow]; rfl⟩)
  have h2 : Hid (∀ o o' : Obj, ∃ q os, (w.alloc o).alloc o' = grow (w.drewN q) os) := Lib.hid (fun o o' => ⟨0, _, by rw [alloc_eq_grow, alloc_eq_grow, grow_grow]; rfl⟩)
  go_enter Tryd.func28, Tryd.ntmps28
  go_wp2
  refine bodyPost_ret (v := .agg #[.string a, .string b, .int .i64 1]) ?_ rfl ⟨rfl, h2.out _ _⟩
  simp [results, Tryd.f28, go_sem]

set_option maxRecDepth 100000 in
set_option maxHeartbeats 4000000 in
theorem rcheck_any (a b : ByteArray) (N : Int) (w : World) (hO : Okw w) (ha : a.size ≤ 2000000) (hb : b.size ≤ 2000000) :
    Calls Tryd.prog 12 #[.agg #[.string a, .string b, .int .i64 N]] w fun e w' => e = .returned (.int .i64 (rchk (a, b, N))) ∧ Below w.heap.size w w' := by
  have cs := fun w => sides_lays a b N w
  have c5 := fun w hO => chk_at (a, b, 1) (by show a.size * 4 ≤ _; omega) (by show b.size * 4 ≤ _; omega) w hO
  have hR : rchk (a, b, N) = if chkS (a, b, 1) = 0 then (if N < 1 ∨ 255 < N then 2 else 0) else chkS (a, b, 1) := rfl
  obtain ⟨res, hres⟩ : ∃ r, rchk (a, b, N) = r := ⟨_, rfl⟩
  obtain ⟨er, her⟩ : ∃ r, chkS (a, b, 1) = r := ⟨_, rfl⟩
  rw [hres] at hR ⊢
  rw [her] at hR
  simp only [her] at c5
  obtain ⟨a0, a1, a2⟩ := cells3_new w (.string a) (.string b) (.int .i64 N) 24
  have hal := blw_one w (.cells #[.string a, .string b, .int .i64 N] 24)
  have hlt : w.heap.size < (w.alloc (.cells #[.string a, .string b, .int .i64 N] 24)).heap.size := by simp
  obtain ⟨W1, hW1⟩ : ∃ z, w.alloc (.cells #[.string a, .string b, .int .i64 N] 24) = z := ⟨_, rfl⟩
  rw [hW1] at a0 a1 a2 hal hlt
  obtain ⟨bx, hbx⟩ : ∃ z, w.heap.size = z := ⟨_, rfl⟩
  rw [hbx] at a0 a1 a2 hlt
  have HW1 := Lib.hid hW1; have HBX := Lib.hid hbx; have HAL := Lib.hid hal; have CS := Lib.hid cs; have C5 := Lib.hid c5; have HR := Lib.hid hR; have HO1 : Hid (Okw W1) := Lib.hid (hO.below hal)
  clear hW1 hbx hal cs c5 hR hres her hO
  go_enter Tryd.func12, Tryd.ntmps12
  go_wp2_with fail
  rw [HW1.out]
  refine (CS.out _).mono ?_
  rintro e w1 ⟨rfl, q1, o1, hw1⟩
  have b1 : Below W1.heap.size W1 w1 := by rw [hw1]; exact below_grows _ _ _
  have K1 : Hid (Okw w1) := Lib.hid (HO1.out.below b1)
  have B1 := Lib.hid b1; clear b1 hw1
  go_wp2_with fail
  refine (C5.out _ K1.out).mono ?_
  rintro e w2 ⟨rfl, b2⟩
  have b12 := B1.out.trans (b2.mono B1.out.size)
  rw [HBX.out]
  have d2 := (b12.cell (p := ⟨bx, 2, none⟩) hlt).trans a2
  have B2 : Hid (Below w.heap.size w w2) := Lib.hid (HAL.out.trans (b12.mono HAL.out.size))
  clear b2 b12 a0 a1 a2 B1
  by_cases h0 : er = 0
  · subst h0
    by_cases h1 : N < 1
    · have hr : Hid (res = 2) := Lib.hid (by rw [HR.out, if_pos (by first | rfl | trivial), if_pos (.inl h1)])
      go_wp2
      go_ret
      exact ⟨by rw [hr.out]; rfl, B2.out⟩
    · by_cases h2 : 255 < N
      · have hr : Hid (res = 2) := Lib.hid (by rw [HR.out, if_pos (by first | rfl | trivial), if_pos (.inr h2)])
        go_wp2
        go_ret
        exact ⟨by rw [hr.out]; rfl, B2.out⟩
      · have hr : Hid (res = 0) := Lib.hid (by rw [HR.out, if_pos (by first | rfl | trivial), if_neg (by omega)])
        go_wp2
        go_ret
        exact ⟨by rw [hr.out]; rfl, B2.out⟩
  · have h0' : (er == 0) = false := by simpa using h0
    have hr : Hid (res = er) := Lib.hid (by rw [HR.out, if_neg h0])
    go_wp2
    go_ret
    exact ⟨by rw [hr.out]; rfl, B2.out⟩

/-- Two rules in their boxes. -/
structure TwoBox (w : World) (p : Nat) (x y : Blk) (w' : World) : Prop where
  a0 : w'.cell? ⟨p, 0, none⟩ = some (.string x.1)
  a1 : w'.cell? ⟨p, 1, none⟩ = some (.string x.2.1)
  a2 : w'.cell? ⟨p, 2, none⟩ = some (.int .i64 x.2.2)
  b0 : w'.cell? ⟨p + 1, 0, none⟩ = some (.string y.1)
  b1 : w'.cell? ⟨p + 1, 1, none⟩ = some (.string y.2.1)
  b2 : w'.cell? ⟨p + 1, 2, none⟩ = some (.int .i64 y.2.2)
  gr : ∃ q os, w' = grow (w.drewN q) os
theorem TwoBox.step {w w' w'' : World} {p : Nat} {x y : Blk} (h : TwoBox w p x y w') (hg : ∃ q os, w'' = grow (w'.drewN q) os) : TwoBox w p x y w'' := by
  obtain ⟨q, os, rfl⟩ := hg
  exact ⟨grow_cell _ _ h.a0, grow_cell _ _ h.a1, grow_cell _ _ h.a2, grow_cell _ _ h.b0, grow_cell _ _ h.b1, grow_cell _ _ h.b2, by obtain ⟨q', os', e⟩ := h.gr; rw [e]; exact grow_more _ _ _ _ _⟩
theorem twoBox (w : World) (x y : Blk) : TwoBox w w.heap.size x y ((w.alloc (.cells #[.string x.1, .string x.2.1, .int .i64 x.2.2] 24)).alloc (.cells #[.string y.1, .string y.2.1, .int .i64 y.2.2] 24)) := by
  obtain ⟨a0, a1, a2⟩ := cells3_new w (.string x.1) (.string x.2.1) (.int .i64 x.2.2) 24
  obtain ⟨b0, b1, b2⟩ := cells3_new (w.alloc (.cells #[.string x.1, .string x.2.1, .int .i64 x.2.2] 24)) (.string y.1) (.string y.2.1) (.int .i64 y.2.2) 24
  rw [World.size_alloc] at b0 b1 b2
  have hb := blw_one (w.alloc (.cells #[.string x.1, .string x.2.1, .int .i64 x.2.2] 24)) (.cells #[.string y.1, .string y.2.1, .int .i64 y.2.2] 24)
  exact ⟨cell_kept hb a0, cell_kept hb a1, cell_kept hb a2, b0, b1, b2, 0, _, by rw [alloc_eq_grow, alloc_eq_grow, grow_grow]; rfl⟩

set_option maxRecDepth 100000 in
set_option maxHeartbeats 4000000 in
theorem rless_lays (a b c d : ByteArray) (N M : Int) (w : World) :
    Calls Tryd.prog 14 #[.agg #[.string a, .string b, .int .i64 N], .agg #[.string c, .string d, .int .i64 M]] w fun e w' => e = .returned (.bool (lessB (a, b, N) (c, d, M))) ∧ ∃ q os, w' = grow (w.drewN q) os := by
  have c1 := fun w => sides_lays a b N w
  have c2 := fun w => sides_lays c d M w
  have c3 := fun w => less_lays a b c d 1 1 w
  have e0 : lessB (a, b, 1) (c, d, 1) = lessB (a, b, N) (c, d, M) := rfl
  obtain ⟨r, hr⟩ : ∃ r, lessB (a, b, N) (c, d, M) = r := ⟨_, rfl⟩
  rw [hr] at e0 ⊢
  simp only [e0] at c3
  have C1 := Lib.hid c1; have C2 := Lib.hid c2; have C3 := Lib.hid c3
  clear c1 c2 c3 e0 hr
  have T := twoBox w (a, b, N) (c, d, M)
  simp only at T
  obtain ⟨W2, hW2⟩ : ∃ z, (w.alloc (.cells #[.string a, .string b, .int .i64 N] 24)).alloc (.cells #[.string c, .string d, .int .i64 M] 24) = z := ⟨_, rfl⟩
  rw [hW2] at T
  have HW2 := Lib.hid hW2; clear hW2
  have a0 := T.a0; have a1 := T.a1; have a2 := T.a2; have b0 := T.b0; have b1 := T.b1; have b2 := T.b2
  simp only at a0 a1 a2 b0 b1 b2
  have HT := Lib.hid T; clear T
  have F : ∀ q os, TwoBox w w.heap.size (a, b, N) (c, d, M) (grow (W2.drewN q) os) := fun q os => HT.out.step ⟨q, os, rfl⟩
  have F0 := fun q os => (F q os).a0; have F1 := fun q os => (F q os).a1; have F2 := fun q os => (F q os).a2; have F3 := fun q os => (F q os).b0; have F4 := fun q os => (F q os).b1; have F5 := fun q os => (F q os).b2
  simp only at F0 F1 F2 F3 F4 F5
  clear F
  have hmix : Tryd.prog.follows .mixedOrders = true := by kernel_rfl
  go_enter Tryd.func14, Tryd.ntmps14
  go_wp2
  rw [HW2.out]
  go_quiet_grown (first | (go_at_call 28; refine Calls.grown_of (C1.out _)) | (go_at_call 28; refine Calls.grown_of (C2.out _)) | (go_at_call 30; refine Calls.grown_of (C3.out _)) | refine Calls.grown_of (C1.out _) | refine Calls.grown_of (C2.out _) | refine Calls.grown_of (C3.out _))
  go_wp2
  go_ret
  exact ⟨rfl, (HT.out.step ⟨_, _, rfl⟩).gr⟩

set_option maxRecDepth 100000 in
set_option maxHeartbeats 4000000 in
theorem compare_lays (x y : Blk) (w : World) :
    Calls Tryd.prog 36 #[.agg (blkCell x).toArray, .agg (blkCell y).toArray] w fun e w' => e = .returned (.int .i64 (cmpB x y)) ∧ ∃ q os, w' = grow (w.drewN q) os := by
  obtain ⟨x1, x2, x3⟩ := x
  obtain ⟨y1, y2, y3⟩ := y
  show Calls Tryd.prog 36 #[.agg #[.string x1, .string x2, .int .i64 x3], .agg #[.string y1, .string y2, .int .i64 y3]] w _
  have c1 := fun w => rless_lays x1 x2 y1 y2 x3 y3 w
  have c2 := fun w => rless_lays y1 y2 x1 x2 y3 x3 w
  obtain ⟨r, hr⟩ : ∃ r, cmpB (x1, x2, x3) (y1, y2, y3) = r := ⟨_, rfl⟩
  rw [hr]
  unfold cmpB at hr
  obtain ⟨l1, hl1⟩ : ∃ z, lessB (x1, x2, x3) (y1, y2, y3) = z := ⟨_, rfl⟩
  obtain ⟨l2, hl2⟩ : ∃ z, lessB (y1, y2, y3) (x1, x2, x3) = z := ⟨_, rfl⟩
  rw [hl1, hl2] at hr
  simp only [hl1] at c1
  simp only [hl2] at c2
  have HR := Lib.hid hr; have C1 := Lib.hid c1; have C2 := Lib.hid c2
  clear hr c1 c2 hl1 hl2
  have T := twoBox w (x1, x2, x3) (y1, y2, y3)
  simp only at T
  obtain ⟨W2, hW2⟩ : ∃ z, (w.alloc (.cells #[.string x1, .string x2, .int .i64 x3] 24)).alloc (.cells #[.string y1, .string y2, .int .i64 y3] 24) = z := ⟨_, rfl⟩
  rw [hW2] at T
  have HW2 := Lib.hid hW2; clear hW2
  have a0 := T.a0; have a1 := T.a1; have a2 := T.a2; have b0 := T.b0; have b1 := T.b1; have b2 := T.b2
  simp only at a0 a1 a2 b0 b1 b2
  have HT := Lib.hid T; clear T
  go_enter Tryd.func36, Tryd.ntmps36
  go_wp2_with fail
  rw [HW2.out]
  refine (C1.out _).mono ?_
  rintro e w1 ⟨rfl, hg1⟩
  have T1 := Lib.hid (HT.out.step hg1)
  clear a0 a1 a2 b0 b1 b2 hg1 HT
  have a0 := T1.out.a0; have a1 := T1.out.a1; have a2 := T1.out.a2; have b0 := T1.out.b0; have b1 := T1.out.b1; have b2 := T1.out.b2
  simp only at a0 a1 a2 b0 b1 b2
  cases l1
  · go_wp2_with fail
    refine (C2.out _).mono ?_
    rintro e w2 ⟨rfl, hg2⟩
    have T2 := Lib.hid (T1.out.step hg2)
    clear a0 a1 a2 b0 b1 b2 hg2 T1
    cases l2
    · have hr : Hid (r = 0) := Lib.hid (by rw [← HR.out]; rfl)
      go_wp2
      go_ret
      exact ⟨by rw [hr.out]; rfl, T2.out.gr⟩
    · have hr : Hid (r = 1) := Lib.hid (by rw [← HR.out]; rfl)
      go_wp2
      go_ret
      exact ⟨by rw [hr.out]; rfl, T2.out.gr⟩
  · have hr : Hid (r = -1) := Lib.hid (by rw [← HR.out]; rfl)
    clear a0 a1 a2 b0 b1 b2
    go_wp2
    go_ret
    exact ⟨by rw [hr.out]; rfl, T1.out.gr⟩

set_option maxRecDepth 100000 in
set_option maxHeartbeats 4000000 in
theorem cheaper_lays (x y : Blk) (w : World) :
    Calls Tryd.prog 33 #[.agg (blkCell x).toArray, .agg (blkCell y).toArray] w fun e w' => e = .returned (.int .i64 (cmpR x y)) ∧ ∃ q os, w' = grow (w.drewN q) os := by
  have c1 := fun w => compare_lays x y w
  obtain ⟨x1, x2, x3⟩ := x
  obtain ⟨y1, y2, y3⟩ := y
  simp only [blkCell] at c1 ⊢
  obtain ⟨r, hr⟩ : ∃ r, cmpR (x1, x2, x3) (y1, y2, y3) = r := ⟨_, rfl⟩
  rw [hr]
  unfold cmpR at hr
  obtain ⟨l1, hl1⟩ : ∃ z, cmpB (x1, x2, x3) (y1, y2, y3) = z := ⟨_, rfl⟩
  rw [hl1] at hr
  simp only [hl1] at c1
  have c2 := fun w => Tryd.cmp_Compare_int x3 y3 w
  have HR := Lib.hid hr; have C1 := Lib.hid c1; have C2 := Lib.hid c2
  clear hr c1 c2 hl1
  have T := twoBox w (x1, x2, x3) (y1, y2, y3)
  simp only at T
  obtain ⟨W2, hW2⟩ : ∃ z, (w.alloc (.cells #[.string x1, .string x2, .int .i64 x3] 24)).alloc (.cells #[.string y1, .string y2, .int .i64 y3] 24) = z := ⟨_, rfl⟩
  rw [hW2] at T
  have HW2 := Lib.hid hW2; clear hW2
  have a0 := T.a0; have a1 := T.a1; have a2 := T.a2; have b0 := T.b0; have b1 := T.b1; have b2 := T.b2
  simp only at a0 a1 a2 b0 b1 b2
  have HT := Lib.hid T; clear T
  go_enter Tryd.func33, Tryd.ntmps33
  go_wp2_with fail
  rw [HW2.out]
  refine (C1.out _).mono ?_
  rintro e w1 ⟨rfl, hg1⟩
  have T1 := Lib.hid (HT.out.step hg1)
  clear a0 a1 a2 b0 b1 b2 hg1 HT
  have a2 := T1.out.a2; have b2 := T1.out.b2
  simp only at a2 b2
  by_cases h0 : l1 = 0
  · subst h0
    have hr : Hid (compareInt x3 y3 = r) := Lib.hid (by have := HR.out; rwa [if_pos (by first | rfl | trivial)] at this)
    go_wp2_with fail
    refine (C2.out _).mono ?_
    rintro e w2 ⟨rfl, rfl⟩
    go_wp2
    go_ret
    exact ⟨by rw [← hr.out]; rfl, T1.out.gr⟩
  · have h0' : (l1 == 0) = false := by simpa using h0
    have hr : Hid (l1 = r) := Lib.hid (by have := HR.out; rwa [if_neg h0] at this)
    go_wp2
    go_ret
    exact ⟨by rw [hr.out]; rfl, T1.out.gr⟩
set_option maxRecDepth 100000 in
set_option maxHeartbeats 4000000 in
theorem eq_lays (x y : Blk) (w : World) :
    Calls Tryd.prog 35 #[.agg (blkCell x).toArray, .agg (blkCell y).toArray] w fun e w' => e = .returned (.bool (decide (sameS x y))) ∧ ∃ q os, w' = grow (w.drewN q) os := by
  have c1 := fun w => compare_lays x y w
  have hd : decide (sameS x y) = (cmpB x y == 0) := by
    unfold cmpB
    rcases less_one x y with ⟨h1, h2, h3⟩ | ⟨h1, h2, h3⟩ | ⟨h1, h2, h3⟩ <;> simp [h1, h2, h3]
  obtain ⟨x1, x2, x3⟩ := x
  obtain ⟨y1, y2, y3⟩ := y
  simp only [blkCell] at c1 ⊢
  rw [hd]
  obtain ⟨l1, hl1⟩ : ∃ z, cmpB (x1, x2, x3) (y1, y2, y3) = z := ⟨_, rfl⟩
  rw [hl1]
  simp only [hl1] at c1
  have C1 := Lib.hid c1
  clear c1 hl1 hd
  have T := twoBox w (x1, x2, x3) (y1, y2, y3)
  simp only at T
  obtain ⟨W2, hW2⟩ : ∃ z, (w.alloc (.cells #[.string x1, .string x2, .int .i64 x3] 24)).alloc (.cells #[.string y1, .string y2, .int .i64 y3] 24) = z := ⟨_, rfl⟩
  rw [hW2] at T
  have HW2 := Lib.hid hW2; clear hW2
  have a0 := T.a0; have a1 := T.a1; have a2 := T.a2; have b0 := T.b0; have b1 := T.b1; have b2 := T.b2
  simp only at a0 a1 a2 b0 b1 b2
  have HT := Lib.hid T; clear T
  go_enter Tryd.func35, Tryd.ntmps35
  go_wp2_with fail
  rw [HW2.out]
  refine (C1.out _).mono ?_
  rintro e w1 ⟨rfl, hg1⟩
  have T1 := Lib.hid (HT.out.step hg1)
  clear a0 a1 a2 b0 b1 b2 hg1 HT
  go_wp2
  go_ret
  exact ⟨rfl, T1.out.gr⟩
end Go.Proofs.YtnognphjndpgkaaDoor

/- slices.Clone over rules; strings of rules of the call's own. -/
namespace Go.Proofs.YtnognphjndpgkaaDoor
open Go.RowKit Go.Shelf
set_option linter.unusedSimpArgs false
set_option linter.unusedVariables false

theorem info_rule : (Tryd.prog.info? 24).map (fun i => (i.zero, i.size, i.bytes)) = some (some (.agg #[.string ⟨#[]⟩, .string ⟨#[]⟩, .int .i64 0]), 3, 40) := by kernel_rfl
theorem rl_ln (x : Blk) : (blkCell x).length = 3 := rfl
theorem rl_one (x : Blk) : ∀ u ∈ blkCell x, u.oneCell' = true := by
  intro u hu
  simp only [blkCell, List.mem_cons, List.mem_nil_iff, or_false] at hu
  rcases hu with rfl | rfl | rfl <;> rfl
theorem own_litR (w : World) (b : Nat) (hb : b ≤ w.heap.size) : (w.alloc (.cells #[] 24)).ownsRow b 24 3 (.slice (some ⟨w.heap.size, 0, none⟩) 0 0) 0 [] :=
  ⟨by simp, .inr ⟨w.heap.size, 0, #[], rfl, hb, heap_alloc_new w _, Nat.le_refl _, by simp [maxLen], by simp, by simp⟩⟩
set_option maxRecDepth 100000 in
set_option maxHeartbeats 4000000 in
/-- A copy, in memory of the call's own. -/
theorem clone_rules (A : Option Addr) (n c : Nat) (l : List Blk) (w : World) (hn : l.length = n) (hu : BRuns w (.slice A n c) l) (hl : n ≤ 2000000) :
    Calls Tryd.prog 31 #[.slice A n c] w fun e w' => ∃ v, e = .returned v ∧ w'.ownsRow w.heap.size 24 3 v n (gCells blkCell l) ∧ Below w.heap.size w w' := by
  have q22 : ∀ (w : World) (a : Option Addr) (n c n' c' : Nat), (binOp .eql 22 (.slice a n c) (.slice none n' c')).run Tryd.prog w = .ok (.bool a.isNone) w := fun w a n c n' c' => Lib.run_eql_slice_nil w _ _ a n c n' c' Tryd.underlying22
  cases A with
  | none =>
    have h0 : n = 0 := by
      obtain ⟨A', c', e, hc, ⟨_, h0⟩, _⟩ := hu
      obtain ⟨e1, e2, e3⟩ := Value.slice.inj e
      have := h0 e1.symm
      omega
    subst h0
    have e0 : l = [] := List.eq_nil_of_length_eq_zero hn
    subst e0
    clear hu hn hl
    go_enter Tryd.func31, Tryd.ntmps31
    go_wp2
    go_ret
    exact ⟨_, rfl, World.ownsRow_nil _ _ _ _, Below.refl _ _⟩
  | some ad =>
    have hba := blw_one w (.cells #[] 24)
    obtain ⟨v7, w7, hrun7, hown7, hg7, hat7⟩ := append_many (P := Tryd.prog) rl_ln rl_one info_rule rfl (by decide) (by decide) Tryd.underlying22 _ w.heap.size _ 0 [] (own_litR w _ (Nat.le_refl _)) _ l (hu.below hba) (by simp) (by rw [hn]; omega)
    have hb7 : Below w.heap.size w w7 := hba.grown hg7 (by simp) (fun k hk => by simp [Value.ownBlock] at hk; omega)
    rw [hn] at hown7
    have H7 := Lib.hid hrun7; have HO := Lib.hid hown7; have HB := Lib.hid hb7
    clear hrun7 hown7 hg7 hat7 hb7 hba hu
    go_enter Tryd.func31, Tryd.ntmps31
    go_wp2_with (at_builtin; refine wpList_append_run (.tmp 5) (.tmp 6) 22 _ _ _ _ H7.out rfl rfl rfl rfl ?_)
    go_ret
    exact ⟨_, rfl, by simpa using HO.out, HB.out⟩
end Go.Proofs.YtnognphjndpgkaaDoor

/- strings.Clone, count.renew: blocks get texts of their own; what they say stays. -/
namespace Go.Proofs.YtnognphjndpgkaaDoor
open Go.RowKit Go.Shelf
set_option linter.unusedSimpArgs false
set_option linter.unusedVariables false

set_option maxRecDepth 100000 in
theorem clone_any (s : ByteArray) (w : World) (h : s.size ≤ 2000000) : Calls Tryd.prog 54 #[.string s] w fun e w' => e = .returned (.string s) ∧ Below w.heap.size w w' := by
  have c := Tryd.stringslite_Clone s w (by omega)
  have C := Lib.hid c; clear c
  go_enter Tryd.func54, Tryd.ntmps54
  go_wp2_with fail
  refine C.out.mono ?_
  rintro e w1 ⟨rfl, b1⟩
  have B1 := Lib.hid b1; clear b1
  go_wp2
  go_ret
  exact ⟨rfl, B1.out⟩

/-- A store of what is there. -/
theorem set_same {w : World} {g j : Nat} {u : Value} (h : w.cell? ⟨g, j, none⟩ = some u) : w.setCell ⟨g, j, none⟩ u = w := by
  have hm : (w.heap.modify g fun
      | .cells c elem frozen => .cells (if (⟨g, j, none⟩ : Addr).spot.isSome then c else c.setIfInBounds j u) elem frozen
      | o => o) = w.heap := by
    apply Array.ext
    · simp
    · intro i h1 h2
      rw [Array.getElem_modify]
      split
      · rename_i e
        subst e
        unfold World.cell? at h
        simp only at h
        rw [Array.getElem?_eq_getElem h2] at h
        generalize w.heap[g] = ob at h ⊢
        cases ob with
        | cells cs t fr =>
          simp only [Option.isSome_none] at h ⊢
          congr 1
          apply Array.ext
          · simp
          · intro k k1 k2
            simp only [Bool.false_eq_true, if_false]
            rw [Array.getElem_setIfInBounds]
            split
            · rename_i e
              subst e
              have h' : cs[j]? = some u := by simpa using h
              rw [Array.getElem?_eq_getElem k2] at h'
              exact (Option.some.inj h').symm
            · rfl
        | _ => rfl
      · rfl
  unfold World.setCell
  exact congrArg (fun hp => { w with heap := hp }) hm

/-- What the region keeps: the block in the row, its copy, all that is old. -/
structure RenK (w : World) (g p c : Nat) (x : Blk) (w' : World) : Prop where
  a0 : w'.cell? ⟨g, p, none⟩ = some (.string x.1)
  a1 : w'.cell? ⟨g, p + 1, none⟩ = some (.string x.2.1)
  b0 : w'.cell? ⟨c, 0, none⟩ = some (.string x.1)
  b1 : w'.cell? ⟨c, 1, none⟩ = some (.string x.2.1)
  f0 : w'.frozen? ⟨g, p, none⟩ = false
  f1 : w'.frozen? ⟨g, p + 1, none⟩ = false
  lt : g < w'.heap.size
  ltc : c < w'.heap.size
  bel : Below w.heap.size w w'
theorem RenK.step {w : World} {g p c : Nat} {x : Blk} {w' w'' : World} (h : RenK w g p c x w') (hb : Below w'.heap.size w' w'') : RenK w g p c x w'' :=
  ⟨(hb.cell (p := ⟨g, _, none⟩) h.lt).trans h.a0, (hb.cell (p := ⟨g, _, none⟩) h.lt).trans h.a1, (hb.cell (p := ⟨c, _, none⟩) h.ltc).trans h.b0, (hb.cell (p := ⟨c, _, none⟩) h.ltc).trans h.b1, (hb.frozen (p := ⟨g, _, none⟩) h.lt).trans h.f0, (hb.frozen (p := ⟨g, _, none⟩) h.lt).trans h.f1, Nat.lt_of_lt_of_le h.lt hb.size, Nat.lt_of_lt_of_le h.ltc hb.size, h.bel.trans (hb.mono h.bel.size)⟩

end Go.Proofs.YtnognphjndpgkaaDoor

/- rule.renewed: the same rules, in memory of the call's own. -/
namespace Go.Proofs.YtnognphjndpgkaaDoor
open Go.RowKit Go.Shelf
set_option linter.unusedSimpArgs false
set_option linter.unusedVariables false

theorem make_rules (w : World) (c : Nat) (hc : c ≤ 2000000) : ∃ w', (Instr.makeSlice 22 (.int .i64 0) (.int .i64 (c : Int))).run Tryd.prog w = .ok (.slice (some ⟨w.heap.size, 0, none⟩) 0 c) w' ∧
    w'.ownsRow w.heap.size 24 3 (.slice (some ⟨w.heap.size, 0, none⟩) 0 c) 0 [] ∧ w.grownBy w' none := by
  obtain ⟨i0, hi, hz0, hz1, hz2⟩ := info_parts info_rule
  exact run_make_own w w.heap.size 22 24 i0 _ 3 Tryd.underlying22 hi hz0 hz1 .i64 .i64 c (by rw [hz2]; omega) (by unfold maxLen; omega) (Nat.le_refl _)

/-- A call of a Go function, as one step of a region that draws its order. -/
theorem step_call_one {P : Program} {ops : Array Oper} {o : Oper} {a : Act} {w : World} {K : Act → World → Prop} {Q : Exit → Act → World → Prop} {E : Prop} (hgd : o.guard = none) (f : Nat) (x : Operand) (t : TypeId) (hop : o.op = .call { callee := .value (.func f), args := #[x], argTypes := #[t] })
    (eg : ∀ args w, (callFunc f args).run P w = .ok (.enter f args) w) {u : Value} (hx : a.eval x = u) {Post : Ending → World → Prop} (hc : Calls P f #[u] w Post) (h : ∀ e w', Post e w' → ∃ v, e = .returned v ∧ K (a.put o.dst v) w') :
    if Region.wanted o (yielded ops a.tmps) = true then Oper.wp P o a w K Q else E := by
  have hw : Region.wanted o (yielded ops a.tmps) = true := by simp [Region.wanted, hgd]
  rw [if_pos hw]
  unfold Oper.wp
  have he : (execOp a.eval o).run P w = .ok (.enter f #[u]) w := by
    have hf : a.eval (.func f) = .func (.func f) #[] #[] := rfl
    simp [execOp, hop, resolve, invoke, Deferred.ofValue, hf, hx, eg, Result.andThen]
  rw [he, Oper.upon_enter]
  refine hc.mono ?_
  intro e w' hp
  obtain ⟨v, rfl, hk⟩ := h e w' hp
  exact hk
/-- An append of rules onto an owned row, as one step of such a region. -/
theorem step_append_rules {ops : Array Oper} {o : Oper} {a : Act} {w : World} {K : Act → World → Prop} {Q : Exit → Act → World → Prop} {E : Prop} (hgd : o.guard = none) (s x : Operand) (base n : Nat) (xs : List Value) (ys : List Blk) {v u : Value}
    (hown : w.ownsRow base 24 3 v n xs) (hu : GRuns blkCell 3 w u ys) (ho : o.op = .call { callee := .builtin .append, args := #[s, x], argTypes := #[22, 22] }) (hty : o.type = 22) (hs : a.eval s = v) (hx : a.eval x = u)
    (hbase : base ≤ w.heap.size) (hlen : (n + ys.length) * 40 ≤ 140737488355328)
    (h : ∀ v' w', w'.ownsRow base 24 3 v' (n + ys.length) (xs ++ gCells blkCell ys) → w.grownBy w' v.ownBlock → (v'.ownBlock = v.ownBlock ∨ v'.ownBlock = some w.heap.size) → K (a.put o.dst v') w') : if Region.wanted o (yielded ops a.tmps) = true then Oper.wp Tryd.prog o a w K Q else E := by
  obtain ⟨v', w', hrun, h2, h3, h4⟩ := append_many (P := Tryd.prog) rl_ln rl_one info_rule rfl (by decide) (by decide) Tryd.underlying22 w base v n xs hown u ys hu hbase hlen
  exact step_append_run' hgd s x _ v u v' w' ho (by rw [hty]; exact hrun) hs hx (h v' w' h2 h3 h4)
/-- A rule in its box, and all that is old. -/
structure BoxK (D : World) (c : Nat) (x : Blk) (W : World) : Prop where
  b0 : W.cell? ⟨c, 0, none⟩ = some (.string x.1)
  b1 : W.cell? ⟨c, 1, none⟩ = some (.string x.2.1)
  b2 : W.cell? ⟨c, 2, none⟩ = some (.int .i64 x.2.2)
  lt : c < W.heap.size
  bel : Below D.heap.size D W
theorem BoxK.step {D : World} {c : Nat} {x : Blk} {W W' : World} (h : BoxK D c x W) (hb : Below W.heap.size W W') : BoxK D c x W' :=
  ⟨(hb.cell (p := ⟨c, _, none⟩) h.lt).trans h.b0, (hb.cell (p := ⟨c, _, none⟩) h.lt).trans h.b1, (hb.cell (p := ⟨c, _, none⟩) h.lt).trans h.b2, Nat.lt_of_lt_of_le h.lt hb.size, h.bel.trans (hb.mono h.bel.size)⟩
theorem rule_litR (w : World) (x : Blk) : GRuns blkCell 3 (w.alloc (.cells #[.string x.1, .string x.2.1, .int .i64 x.2.2] 24)) (.slice (some ⟨w.heap.size, 0, none⟩) 1 1) [x] := by
  have e0 := heap_alloc_new w (.cells #[.string x.1, .string x.2.1, .int .i64 x.2.2] 24)
  refine ⟨_, 1, rfl, Nat.le_refl _, ⟨by simp [maxLen], fun h => by cases h⟩, fun _ => ⟨w.heap.size, 0, rfl, by simp, fun j z hj i u hu => ?_⟩⟩
  obtain rfl : j = 0 := by have := (List.getElem?_eq_some_iff.1 hj).1; simpa using this
  obtain rfl : x = z := by simpa using hj
  rw [cell_of_row _ _ _ _ _ (0, 0) e0]
  simpa [blkCell] using hu

set_option maxRecDepth 100000 in
set_option maxHeartbeats 8000000 in
theorem renewed_any (u : Value) (l : List Blk) (w : World) (hu : BRuns w u l) (hl : l.length ≤ 2000000) (hz : szL l) :
    Calls Tryd.prog 37 #[u] w fun e w' => ∃ v, e = .returned v ∧ w'.ownsRow w.heap.size 24 3 v l.length (gCells blkCell l) ∧ Below w.heap.size w w' := by
  obtain ⟨A, c, e⟩ := hu.slice
  subst e
  obtain ⟨n, hn⟩ : ∃ n, l.length = n := ⟨_, rfl⟩
  have hfin : gCells blkCell l = gCells blkCell (l.take l.length) := by rw [List.take_length]
  rw [hfin, hn]
  rw [hn] at hu hl
  obtain ⟨w1, hr1, ho1, hg1⟩ := make_rules w n hl
  have hb1 : Below w.heap.size w w1 := (Below.refl w.heap.size w).grown hg1 (Nat.le_refl _) (fun k hk => by cases hk)
  have HU := Lib.hid hu; have HN := Lib.hid hn; have HZ := Lib.hid hz; have HO1 := Lib.hid ho1; have HB1 := Lib.hid hb1
  have CL := Lib.hid clone_any
  clear hu hn hz ho1 hb1 hg1 hfin
  go_enter Tryd.func37, Tryd.ntmps37
  have eg : ∀ args w, (callFunc 54 args).run Tryd.prog w = .ok (.enter 54 args) w := enters_of Tryd.func54 (by kernel_rfl) rfl
  have hmix : Tryd.prog.follows .mixedOrders = true := by kernel_rfl
  have HEG := Lib.hid eg; clear eg
  go_wp2
  go_loopw [3, 11] (fun s3 s11 wr => ∃ k : Nat, k ≤ n ∧ s11 = .int .i64 k ∧ Hid (wr.ownsRow w.heap.size 24 3 s3 k (gCells blkCell (l.take k))) ∧ Hid (Below w.heap.size w wr)) (fun _ s11 _ => n - (RowKit.intOf s11).toNat)
  case atStart => exact ⟨0, Nat.zero_le _, rfl, HO1, HB1⟩
  case round =>
    obtain ⟨k, hkn, rfl, HO, BW⟩ := hrel
    by_cases hk : k < n
    · have k1 : (k : Int) < (n : Int) := by omega
      obtain ⟨⟨p1, p2, p3⟩, hp⟩ : ∃ p, l[k]? = some p := ⟨_, List.getElem?_eq_getElem (by rw [HN.out]; exact hk)⟩
      obtain ⟨b, o, rfl, _, hc⟩ := (HU.out.below BW.out).cells HN.out (by omega)
      obtain ⟨g0, g1, g2⟩ := blk_cells hc hp
      simp only at g0 g1 g2
      have hz1 := HZ.out _ (List.mem_of_getElem? hp)
      simp only at hz1
      have HNEXT : Hid (l.take (k + 1) = l.take k ++ [(p1, p2, p3)]) := Lib.hid (by rw [List.take_add_one, hp]; rfl)
      obtain ⟨t, ht⟩ : ∃ t, l.take k = t := ⟨_, rfl⟩
      rw [ht] at HO HNEXT
      have hte : t.length = k := by rw [← ht, List.length_take, HN.out]; omega
      have GR := GRuns.of_own rl_ln hte HO.out
      obtain ⟨A3, c3, e3⟩ := GR.slice
      rw [hte] at e3
      subst e3
      clear GR
      have hal := blw_one wr (.cells #[.string p1, .string p2, .int .i64 p3] 24)
      obtain ⟨e0, e1, e2⟩ := cells3_new wr (.string p1) (.string p2) (.int .i64 p3) 24
      have hltb : wr.heap.size < (wr.alloc (.cells #[.string p1, .string p2, .int .i64 p3] 24)).heap.size := by simp
      obtain ⟨wa, hwa⟩ : ∃ z, wr.alloc (.cells #[.string p1, .string p2, .int .i64 p3] 24) = z := ⟨_, rfl⟩
      rw [hwa] at hal e0 e1 e2 hltb
      obtain ⟨bx, hbx⟩ : ∃ z, wr.heap.size = z := ⟨_, rfl⟩
      rw [hbx] at e0 e1 e2 hltb
      have BA : Hid (Below w.heap.size w wa.drew) := Lib.hid (BW.out.trans (hal.mono BW.out.size)).drew
      have OA : Hid (wa.drew.ownsRow w.heap.size 24 3 (.slice A3 k c3) k (gCells blkCell t)) := Lib.hid (own_below HO.out hal.drew)
      have KA : Hid (BoxK wa.drew bx (p1, p2, p3) wa.drew) := Lib.hid ⟨e0, e1, e2, hltb, Below.refl _ _⟩
      have C1 := Lib.hid (fun w => CL.out p1 w hz1.1); have C2 := Lib.hid (fun w => CL.out p2 w hz1.2)
      have HWA := Lib.hid hwa; have HBX := Lib.hid hbx
      have SD : w.heap.size ≤ wa.drew.heap.size := BA.out.size
      clear hc hp hal hwa hbx ht hz1 HO hte
      have eg := HEG.out
      go_wp2
      rw [HWA.out, HBX.out]
      clear g0 g1 g2
      have d0 : wa.drew.cell? ⟨bx, 0, none⟩ = some (.string p1) := e0
      have d1 : wa.drew.cell? ⟨bx, 1, none⟩ = some (.string p2) := e1
      have d2 : wa.drew.cell? ⟨bx, 2, none⟩ = some (.int .i64 p3) := e2
      go_region_law (first
        | (refine step_call_one rfl 54 (.tmp 17) 9 rfl eg (by go_simp) (C1.out _) ?_; rintro e w18 ⟨rfl, hb18⟩; refine ⟨_, rfl, ?_⟩; have K18 : Hid (BoxK wa.drew bx (p1, p2, p3) w18) := Lib.hid (KA.out.step hb18); have x0 := K18.out.b0; have x1 := K18.out.b1; have x2 := K18.out.b2; simp only at x0 x1 x2; clear hb18)
        | (refine step_call_one rfl 54 (.tmp 20) 9 rfl eg (by go_simp) (C2.out _) ?_; rintro e w21 ⟨rfl, hb21⟩; refine ⟨_, rfl, ?_⟩; have K21 : Hid (BoxK wa.drew bx (p1, p2, p3) w21) := Lib.hid (K18.out.step hb21); have z0 := K21.out.b0; have z1 := K21.out.b1; have z2 := K21.out.b2; simp only at z0 z1 z2; clear hb21)
        | (refine step_append_rules rfl (.tmp 15) (.tmp 25) w.heap.size k (gCells blkCell t) [(p1, p2, p3)] (by exact own_below OA.out (K21.out.bel.trans ((blw_one _ _).mono K21.out.bel.size))) (by exact rule_litR _ (p1, p2, p3)) rfl rfl (by go_simp) (by go_simp) (by exact Nat.le_trans SD (K21.out.bel.trans ((blw_one _ _).mono K21.out.bel.size)).size) (by simp only [List.length_cons, List.length_nil]; omega) ?_; intro v26 w26 h26 k26 j26; have O26 : Hid (w26.ownsRow w.heap.size 24 3 v26 (k + 1) (gCells blkCell (t ++ [(p1, p2, p3)]))) := Lib.hid (by rw [gCells_append]; exact h26); have B26 : Hid (Below w.heap.size w w26) := Lib.hid ((BA.out.trans ((K21.out.bel.trans ((blw_one _ _).mono K21.out.bel.size)).mono SD)).grown k26 (by exact Nat.le_trans SD (K21.out.bel.trans ((blw_one _ _).mono K21.out.bel.size)).size) (fun q hq => (OA.out.lt q hq).1)); clear h26 k26 j26))
      all_goals
        go_wp2
        exact ⟨⟨k + 1, by omega, by go_num, Lib.hid (by rw [HNEXT.out]; exact O26.out), B26⟩, by simp [RowKit.intOf]; omega⟩
    · obtain rfl : k = n := by omega
      go_wp2
      go_ret
      exact ⟨_, rfl, HO.out, BW.out⟩
end Go.Proofs.YtnognphjndpgkaaDoor

/- How often a sixteenth of a doubling fits between two numbers: plain. -/
namespace Go.Proofs.YtnognphjndpgkaaDoor

/-- The greatest k such that 2^k times b^16 isn't greater than a^16. -/
def rat (a b : Nat) : Nat := Nat.log2 (a ^ 16 / b ^ 16)

theorem le_rat {a b k : Nat} (hb : 1 ≤ b) (hab : b ≤ a) : k ≤ rat a b ↔ 2 ^ k * b ^ 16 ≤ a ^ 16 := by
  have hb16 : 0 < b ^ 16 := Nat.pow_pos hb
  have h1 : b ^ 16 ≤ a ^ 16 := Nat.pow_le_pow_left hab 16
  have hne : a ^ 16 / b ^ 16 ≠ 0 := by
    have := (Nat.le_div_iff_mul_le hb16).2 (show 1 * b ^ 16 ≤ a ^ 16 by rw [Nat.one_mul]; exact h1)
    omega
  unfold rat
  rw [Nat.le_log2 hne, Nat.le_div_iff_mul_le hb16]

theorem rat_eq {a b k : Nat} (hb : 1 ≤ b) (hab : b ≤ a) (h1 : 2 ^ k * b ^ 16 ≤ a ^ 16) (h2 : a ^ 16 < 2 ^ (k + 1) * b ^ 16) : rat a b = k := by
  have g1 := (le_rat hb hab).2 h1
  have g2 : ¬ (k + 1 ≤ rat a b) := fun h => Nat.not_le.2 h2 ((le_rat hb hab).1 h)
  omega

theorem rat_le {a b : Nat} (hb : 1 ≤ b) (hab : b ≤ a) : 2 ^ rat a b * b ^ 16 ≤ a ^ 16 := (le_rat hb hab).1 (Nat.le_refl _)
theorem rat_lt {a b : Nat} (hb : 1 ≤ b) (hab : b ≤ a) : a ^ 16 < 2 ^ (rat a b + 1) * b ^ 16 := by
  have := (le_rat (k := rat a b + 1) hb hab)
  by_cases h : 2 ^ (rat a b + 1) * b ^ 16 ≤ a ^ 16
  · have := this.2 h; omega
  · omega

theorem pow31 {a m : Nat} (h : a ≤ 2147483648) : a ^ m ≤ 2 ^ (31 * m) := by
  rw [Nat.pow_mul]
  exact Nat.pow_le_pow_left h m
theorem le31 {x m : Nat} (h : 2 ^ x ≤ 2 ^ (31 * m)) : x ≤ 31 * m := (Nat.pow_le_pow_iff_right (by decide)).1 h

/-- Steps of one sixteenth, from a bound on the number. -/
theorem rat_bound {a b : Nat} (hb : 1 ≤ b) (hab : b ≤ a) (ha : a ≤ 2147483648) : rat a b ≤ 496 := by
  have h := rat_le hb hab
  have h1 := pow31 (m := 16) ha
  have h2 : 2 ^ rat a b * 1 ≤ 2 ^ rat a b * b ^ 16 := Nat.mul_le_mul_left _ (Nat.pow_pos hb)
  rw [Nat.mul_one] at h2
  exact le31 (m := 16) (Nat.le_trans h2 (Nat.le_trans h h1))

theorem rat_congr {a b c d : Nat} {n : Nat} (hb : 1 ≤ b) (hab : b ≤ a) (hd : 1 ≤ d) (hdc : d ≤ c) (h : ∀ k, 2 ^ (k + n) * d ^ 16 ≤ c ^ 16 ↔ 2 ^ k * b ^ 16 ≤ a ^ 16) : rat c d = rat a b + n := by
  have e : ∀ k, k + n ≤ rat c d ↔ k ≤ rat a b := fun k => by rw [le_rat hd hdc, le_rat hb hab]; exact h k
  have g1 := (e (rat a b)).2 (Nat.le_refl _)
  have g2 := e (rat c d - n)
  omega

theorem rat_double {a b : Nat} (hb : 1 ≤ b) (hab : b ≤ a) : rat (2 * a) b = rat a b + 16 := by
  refine rat_congr hb hab hb (by omega) fun k => ?_
  rw [Nat.mul_pow, Nat.pow_add, Nat.mul_right_comm, Nat.mul_comm (2 ^ 16) (a ^ 16)]
  exact Nat.mul_le_mul_right_iff (by decide)

/-- The second number doubled: sixteen less. -/
theorem rat_half {a b : Nat} (hb : 1 ≤ b) (hab : 2 * b ≤ a) : rat a b = rat a (2 * b) + 16 := by
  refine rat_congr (by omega) hab hb (by omega) fun k => ?_
  rw [Nat.mul_pow, Nat.pow_add, Nat.mul_assoc]

theorem rat_mul {a b m : Nat} (hb : 1 ≤ b) (hab : b ≤ a) (hm : 1 ≤ m) : rat (m * a) (m * b) = rat a b := by
  refine (rat_congr (n := 0) hb hab (Nat.mul_pos hm hb) (Nat.mul_le_mul_left m hab) fun k => ?_)
  rw [Nat.mul_pow, Nat.mul_pow, Nat.add_zero, Nat.mul_left_comm]
  exact Nat.mul_le_mul_left_iff (Nat.pow_pos hm)

theorem rat_self {b : Nat} (hb : 1 ≤ b) : rat b b = 0 := by
  refine rat_eq hb (Nat.le_refl _) (by simp) ?_
  have : 0 < b ^ 16 := Nat.pow_pos hb
  generalize b ^ 16 = x at *
  omega

theorem rat_mono {a a' b : Nat} (hb : 1 ≤ b) (hab : b ≤ a) (h : a ≤ a') : rat a b ≤ rat a' b :=
  (le_rat hb (Nat.le_trans hab h)).2 (Nat.le_trans (rat_le hb hab) (Nat.pow_le_pow_left h 16))
theorem rat_anti {a b b' : Nat} (hb : 1 ≤ b) (h : b ≤ b') (hab : b' ≤ a) : rat a b' ≤ rat a b :=
  (le_rat hb (Nat.le_trans h hab)).2 (Nat.le_trans (Nat.mul_le_mul_left _ (Nat.pow_le_pow_left h 16)) (rat_le (Nat.le_trans hb h) hab))

theorem rat_parts {a b c : Nat} (hc : 1 ≤ c) (hcb : c ≤ b) (hba : b ≤ a) : rat a c = rat a b + rat b c ∨ rat a c = rat a b + rat b c + 1 := by
  have hb : 1 ≤ b := Nat.le_trans hc hcb
  have hca := Nat.le_trans hcb hba
  have h1 := rat_le hb hba
  have h2 := rat_le hc hcb
  have h3 := rat_lt hb hba
  have h4 := rat_lt hc hcb
  have g1 : rat a b + rat b c ≤ rat a c := by
    rw [le_rat hc hca, Nat.pow_add, Nat.mul_assoc]
    exact Nat.le_trans (Nat.mul_le_mul_left _ h2) h1
  have g2 : ¬ (rat a b + rat b c + 2 ≤ rat a c) := by
    rw [le_rat hc hca]
    refine Nat.not_le.2 (Nat.lt_of_lt_of_le h3 ?_)
    have e : 2 ^ (rat a b + rat b c + 2) * c ^ 16 = 2 ^ (rat a b + 1) * (2 ^ (rat b c + 1) * c ^ 16) := by
      rw [← Nat.mul_assoc, ← Nat.pow_add]
      congr 2
      omega
    rw [e]
    exact Nat.mul_le_mul_left _ (Nat.le_of_lt h4)
  omega

theorem rat_sixteen {a b : Nat} (hb : 1 ≤ b) (hab : b ≤ a) : 16 ≤ rat a b ↔ 2 * b ≤ a := by
  rw [le_rat hb hab, ← Nat.mul_pow]
  exact Nat.pow_le_pow_iff_left (by decide)
theorem rat_le_sixteen {a b : Nat} (hb : 1 ≤ b) (hab : b ≤ a) (h : a ≤ 2 * b) : rat a b ≤ 16 := by
  have := rat_mono hb hab h
  rw [rat_double hb (Nat.le_refl b), rat_self hb] at this
  omega
end Go.Proofs.YtnognphjndpgkaaDoor

