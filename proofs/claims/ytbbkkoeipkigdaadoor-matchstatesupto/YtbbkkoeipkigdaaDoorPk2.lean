/- Texts that several proofs of this seat share, one behind the other: MMach GenApp Plain Iter Decode Letters Plain2. -/
import Derived.Test.YtbbkkoeipkigdaaDoorPk1
import Derived.WalkKit
import Derived.Lib.MapLaws
import Derived.Lib.ValidLaws
import Derived.RangeFuncNested
import Derived.RangeFuncBound
import Derived.RangeFuncCalls
import Derived.RangeFuncLeaves
import Derived.RangeFuncBox
import Derived.Shelf.Abstract
import Derived.Shelf.RegionOpen
import Derived.OwnWalkIn
import Derived.TacticsInMore
import Derived.LoopNIn
import Derived.LoopIn
import Derived.Maps.AppendAt
import Derived.Scope
import Derived.Shelf.Unicode.DecodeAny
import Derived.Test.YtbbkkoeipkigdaaDoorShelf
import Derived.Lib.Small
import Derived.Lib.Strings
import Derived.Lib.Bytealg
/- A machine in memory, as it is read: its states by their numbers, where a rune leads; match's state and step. -/
namespace Go.Proofs.YtbbkkoeipkigdaaDoor
open Go.RowKit
set_option linter.unusedSimpArgs false
set_option linter.unusedVariables false

theorem mcell_lt {w : World} {a : Addr} {v : Value} (hc : w.cell? a = some v) : a.block < w.heap.size := by
  rcases Nat.lt_or_ge a.block w.heap.size with h' | h'
  · exact h'
  · simp [World.cell?, Array.getElem?_eq_none h'] at hc
/-- A row of numbers, as it is read. -/
def numCell (x : Nat) : List Value := [.int .i64 (x : Int)]
abbrev NRuns (w : World) (v : Value) (l : List Nat) : Prop := GRuns numCell 1 w v l
/-- Where a state lies. -/
def adM (p g n j : Nat) : Addr := if n = 0 then ⟨p, j, none⟩ else ⟨g, (n - 1) * 3 + j, none⟩
theorem adM_zero (p g j : Nat) : adM p g 0 j = ⟨p, j, none⟩ := rfl
theorem adM_pos (p g : Nat) {n : Nat} (h : n ≠ 0) (j : Nat) : adM p g n j = ⟨g, (n - 1) * 3 + j, none⟩ := by unfold adM; rw [if_neg h]

/-- A machine lies at p: as it is read. -/
structure MachR (w : World) (p : Nat) (A : Option Addr) (c g mp : Nat) (T : List (List Int)) (X : List Int → List Nat) : Prop where
  ok : TreeOk T
  len : T.length ≤ 1000000
  more : w.cell? ⟨p, 3, none⟩ = some (.slice A (T.length - 1) c)
  cap : T.length - 1 ≤ c ∧ c ≤ maxLen
  adr : 1 < T.length → A = some ⟨g, 0, none⟩
  nx : w.cell? ⟨p, 4, none⟩ = some (.map (some mp))
  st : ∀ (n : Nat) (s : List Int), T[n]? = some s → w.cell? (adM p g n 0) = some (.int .i64 (s.length : Nat)) ∧ w.cell? (adM p g n 1) = some (.int .i64 (numT T (failP (inT T) s) : Nat)) ∧
    ∃ rv, w.cell? (adM p g n 2) = some rv ∧ NRuns w rv (X s)
  mv : ∃ n D, EdgMap w mp n D ∧ ViewE D T
theorem MachR.below {w w' : World} {p c g mp : Nat} {A : Option Addr} {T : List (List Int)} {X : List Int → List Nat} (h : MachR w p A c g mp T X) (hb : Below w.heap.size w w') : MachR w' p A c g mp T X := by
  refine ⟨h.ok, h.len, (hb.cell (mcell_lt h.more)).trans h.more, h.cap, h.adr, (hb.cell (mcell_lt h.nx)).trans h.nx, fun n s hs => ?_, ?_⟩
  · obtain ⟨h1, h2, rv, h3, h4⟩ := h.st n s hs
    exact ⟨(hb.cell (mcell_lt h1)).trans h1, (hb.cell (mcell_lt h2)).trans h2, rv, (hb.cell (mcell_lt h3)).trans h3, h4.below hb⟩
  · obtain ⟨n, D, hD, hV⟩ := h.mv
    obtain ⟨es, clock, hx, rest⟩ := hD
    exact ⟨n, D, ⟨es, clock, (hb.block mp (Array.getElem?_eq_some_iff.1 hx).1).trans hx, rest⟩, hV⟩
theorem fail_in {T : List (List Int)} (h : TreeOk T) (s : List Int) : failP (inT T) s ∈ T := inT_mem.1 (lsuf_in h.in_nil _)
theorem lsuf_mem {T : List (List Int)} (h : TreeOk T) (s : List Int) : lsuf (inT T) s ∈ T := inT_mem.1 (lsuf_in h.in_nil _)

set_option maxRecDepth 100000 in
set_option maxHeartbeats 4000000 in
theorem state_any (w : World) (p c g mp n : Nat) (A : Option Addr) (T : List (List Int)) (X : List Int → List Nat) (h : MachR w p A c g mp T X) (hn : n < T.length) :
    Calls Tryd.prog 29 #[.pointer (some ⟨p, 0, none⟩), .int .i64 (n : Int)] w fun e w' => e = .returned (.pointer (some (adM p g n 0))) ∧ w' = w := by
  by_cases h0 : n = 0
  · subst h0
    go_enter Tryd.func29, Tryd.ntmps29
    go_wp2
    go_ret
    exact ⟨rfl, rfl⟩
  · obtain ⟨m, rfl⟩ : ∃ m, n = m + 1 := ⟨n - 1, by omega⟩
    have hm := h.more
    obtain ⟨q, hq⟩ : ∃ q, T.length - 1 = q := ⟨_, rfl⟩
    rw [hq] at hm
    have hA := h.adr (by omega)
    subst hA
    have hl := h.len
    have hmq : m < q := by omega
    have hmq2 : (m : Int) < (q : Int) := by omega
    have hne : ((((m + 1 : Nat) : Int)) == 0) = false := by simp; omega
    have hwr : IntKind.i64.wrap (((m + 1 : Nat) : Int) - 1) = (m : Int) := by rw [IntKind.wrap_i64]; omega
    have he : adM p g (m + 1) 0 = ⟨g, m * 3, none⟩ := by rw [adM_pos p g h0]; simp
    rw [he]
    clear h hq he
    go_enter Tryd.func29, Tryd.ntmps29
    go_wp2
    go_ret
    exact ⟨rfl, rfl⟩

/-- What the map tells of a state and a rune. -/
theorem MachR.look {w : World} {p c g mp : Nat} {A : Option Addr} {T : List (List Int)} {X : List Int → List Nat} (h : MachR w p A c g mp T X) (n : Nat) (s : List Int) (r : Int) (hn : T[n]? = some s) (hr : (Lit.int .i32 r).wf = true) :
    ∃ k : Nat, (Instr.lookup 63 (.map (some mp)) (.agg #[.int .i64 (n : Int), .int .i32 r]) true).run Tryd.prog w = .ok (.tuple #[.int .i64 (k : Int), .bool (inT T (s ++ [r]))]) w ∧
      (inT T (s ++ [r]) = true → T[k]? = some (s ++ [r])) := by
  obtain ⟨q, D, hD, hV⟩ := h.mv
  have hl := h.len
  have hlt := (List.getElem?_eq_some_iff.1 hn).1
  obtain ⟨v, ps, hrun, hv⟩ := hD.look_ok (t := 63) (e := 3) edge_keyed Tryd.underlying63 (int_zeroE w) (plainElem_int (H := Unit) Tryd.underlying3 (by decide)) (keyOf_edge n r (wf_nat (by omega)) hr)
  obtain ⟨z, rfl, hz, _⟩ := plainElem_int_inv Tryd.underlying3 hv
  have hat : D.atKey (keyE n r) (.lit (.int .i64 0)) = .lit (.int .i64 z) := congrArg Prod.fst hz
  rw [hV.has n s r hn hr] at hrun
  cases hin : inT T (s ++ [r]) with
  | true =>
    obtain ⟨k, hk⟩ := TreeOk.num (inT_mem.1 hin)
    rw [hV.at_ n k s r hn hk hr] at hat
    have e : (k : Int) = z := by simpa using hat
    subst e
    rw [hin] at hrun
    exact ⟨k, hrun, fun _ => hk⟩
  | false =>
    have h0 : Maps.has D (keyE n r) = false := by rw [hV.has n s r hn hr, hin]
    rw [Maps.atKey_of_not_has h0] at hat
    have e : (0 : Int) = z := by simpa using hat
    subst e
    rw [hin] at hrun
    exact ⟨0, hrun, fun e => by cases e⟩

set_option maxRecDepth 100000 in
set_option maxHeartbeats 8000000 in
theorem step_any (w : World) (p c g mp n : Nat) (A : Option Addr) (T : List (List Int)) (X : List Int → List Nat) (h : MachR w p A c g mp T X) (s : List Int) (r : Int) (hn : T[n]? = some s) (hr : (Lit.int .i32 r).wf = true) :
    Calls Tryd.prog 56 #[.pointer (some ⟨p, 0, none⟩), .int .i64 (n : Int), .int .i32 r] w fun e w' => ∃ k : Nat, e = .returned (.int .i64 (k : Int)) ∧ T[k]? = some (lsuf (inT T) (s ++ [r])) ∧ w' = w := by
  obtain ⟨z, hz⟩ : ∃ z, lsuf (inT T) (s ++ [r]) = z := ⟨_, rfl⟩
  rw [hz]
  have HZ := Lib.hid hz
  have HM := Lib.hid h
  have c4 := h.nx
  clear hz h
  go_enter Tryd.func56, Tryd.ntmps56
  go_wp2
  go_step3
  go_wp2
  go_step3
  go_wp2
  go_loop [1] (fun s1 => ∃ (m : Nat) (t : List Int), s1 = .int .i64 (m : Int) ∧ Hid (T[m]? = some t) ∧ Hid (lsuf (inT T) (t ++ [r]) = z)) (fun s1 => ((T[(RowKit.intOf s1).toNat]?).getD []).length)
  case atStart => exact ⟨n, s, rfl, Lib.hid hn, HZ⟩
  case round =>
    obtain ⟨m, t, rfl, HT, HL⟩ := hrel
    obtain ⟨k, hlk, hk⟩ := HM.out.look m t r HT.out hr
    cases hin : inT T (t ++ [r]) with
    | true =>
      rw [hin] at hlk
      have HK := Lib.hid (hk hin)
      have hf := fall_fits hin
      rw [HL.out] at hf
      have HF := Lib.hid hf
      clear hk hin hf
      go_wp2
      go_ret
      exact ⟨k, rfl, by rw [HF.out]; exact HK.out, rfl⟩
    | false =>
      rw [hin] at hlk
      clear hk
      by_cases h0 : m = 0
      · subst h0
        have e0 := HM.out.ok.zero HT.out
        subst e0
        have hf := fall_none (c := r) (by simpa using hin)
        rw [HL.out] at hf
        have HF := Lib.hid hf
        clear hf hin
        change (Instr.lookup 63 (.map (some mp)) (.agg #[.int .i64 0, .int .i32 r]) true).run Tryd.prog w = _ at hlk
        go_wp2
        go_ret
        exact ⟨0, rfl, by rw [HF.out]; exact HM.out.ok.head, rfl⟩
      · have hne : ((m : Int) == 0) = false := by simpa using h0
        have hs := HM.out.ok.nz HT.out h0
        have hmem := fail_in HM.out.ok t
        have hnum := numT_at hmem
        obtain ⟨f, hf⟩ : ∃ f, numT T (failP (inT T) t) = f := ⟨_, rfl⟩
        have hc1 := (HM.out.st m t HT.out).2.1
        rw [hf] at hc1 hnum
        rw [adM_pos p g h0] at hc1
        have hlt := (List.getElem?_eq_some_iff.1 HT.out).1
        have cst := state_any w p c g mp m A T X HM.out hlt
        rw [adM_pos p g h0] at cst
        have hback := fall_back HM.out.ok.in_nil HM.out.ok.in_less hs hin
        have hshort := failP_len (inT T) hs
        have HB : Hid (lsuf (inT T) (failP (inT T) t ++ [r]) = z) := Lib.hid (by rw [← hback]; exact HL.out)
        have HN := Lib.hid hnum
        have HSH := Lib.hid hshort
        have HC := Lib.hid cst
        have HM2 : Hid ((T[m]?).getD [] = t) := Lib.hid (by rw [HT.out]; rfl)
        clear hback hshort hnum hin hmem hf cst hs
        go_wp2_with (go_at_call 29; refine HC.out.mono ?_; rintro e w' ⟨rfl, rfl⟩)
        go_round
        case rel => exact ⟨f, _, rfl, HN, HB⟩
        case measure =>
          simp only [RowKit.intOf, Int.toNat_natCast]
          rw [HN.out, HM2.out]
          exact HSH.out
end Go.Proofs.YtbbkkoeipkigdaaDoor

/- append(v, u...) onto a row of the call's own, for rows of any structs. -/
namespace Go.Proofs.YtbbkkoeipkigdaaDoor
open Go.RowKit

theorem append_many {P : Program} {α : Type} {enc : α → List Value} {k bytes : Nat} {tS tE : TypeId} {z : Value} (hk : ∀ x, (enc x).length = k) (h1 : ∀ x, ∀ u ∈ enc x, u.oneCell' = true) (hinfo : (P.info? tE).map (fun i => (i.zero, i.size, i.bytes)) = some (some z, k, bytes)) (hzl : z.cells.size = k) (hk0 : 0 < bytes) (hk1 : 0 < k)
    (hU : P.underlying tS = some (.slice tE)) (w : World) (base : Nat) (v : Value) (n : Nat) (xs : List Value) (hown : w.ownsRow base tE k v n xs) (u : Value) (ys : List α) (hu : GRuns enc k w u ys) (hbase : base ≤ w.heap.size) (hlen : (n + ys.length) * bytes ≤ 140737488355328) :
    ∃ v' w', (Builtin.append_ #[tS, tS] tS #[v, u]).run P w = .ok v' w' ∧ w'.ownsRow base tE k v' (n + ys.length) (xs ++ gCells enc ys) ∧
      w.grownBy w' v.ownBlock ∧ (v'.ownBlock = v.ownBlock ∨ v'.ownBlock = some w.heap.size) := by
  obtain ⟨i0, hi, hz0, hz1, hz2⟩ := info_parts hinfo
  obtain ⟨A, c, rfl, hxc, ⟨hxm, hc0⟩, hxx⟩ := hu
  cases A with
  | none =>
    obtain rfl := hc0 rfl
    have h0 : ys = [] := List.eq_nil_of_length_eq_zero (by omega)
    subst h0
    exact ⟨v, w, run_append_owned_none (P := P) (w := w) base tS tS tE i0 k hU hi v n xs hown, by simpa [gCells] using hown, World.grownBy.refl w _, .inl rfl⟩
  | some ad =>
    have hcells : ∀ j u, (gCells enc ys)[j]? = some u → w.cell? (ad.add j) = some u := by
      intro j u hj
      have hjl : j < (gCells enc ys).length := (List.getElem?_eq_some_iff.1 hj).1
      rw [gCells_len hk] at hjl
      have hq : j / k < ys.length := (Nat.div_lt_iff_lt_mul hk1).2 hjl
      obtain ⟨b, o, e, _, hc⟩ := hxx (Nat.lt_of_le_of_lt (Nat.zero_le _) hq)
      have e := Option.some.inj e
      subst e
      obtain ⟨x, hx⟩ : ∃ x, ys[j / k]? = some x := ⟨_, List.getElem?_eq_getElem hq⟩
      have h3 := gCells_at hk ys (j / k) (j % k) x hx (Nat.mod_lt _ hk1)
      have hdm : j / k * k + j % k = j := by rw [Nat.mul_comm]; exact Nat.div_add_mod j k
      rw [hdm, hj] at h3
      have h4 := hc (j / k) x hx (j % k) u h3.symm
      have ea : (⟨b, o, none⟩ : Addr).add j = ⟨b, o + j / k * k + j % k, none⟩ := by rw [Nat.add_assoc, hdm]; unfold Addr.add; simp <;> omega
      rw [ea]; exact h4
    have hone : ∀ u ∈ gCells enc ys, u.oneCell' = true := by
      intro u hu
      obtain ⟨p, _, hp⟩ := List.mem_flatMap.1 hu
      exact h1 p u hp
    obtain ⟨v', w', hrun, h2, h3, _, h5⟩ := run_append_own_at (P := P) w base tS tS tE i0 z k bytes hU hi hz0 hz1 hz2 hzl hk1 v n xs hown ad ys.length c (gCells enc ys) (gCells_len hk ys) hcells hone
      (by have : n + ys.length ≤ (n + ys.length) * bytes := Nat.le_mul_of_pos_right _ hk0; unfold maxLen; omega) hlen hbase
    exact ⟨v', w', hrun, h2, h3, h5⟩
end Go.Proofs.YtbbkkoeipkigdaaDoor

/- The runes of a text, plain: no program here. -/
namespace Go.Proofs.YtbbkkoeipkigdaaDoor
open Go.Lib

/-- The bytes begin with no rune. -/
def badB (l : List UInt8) : Bool := decide ((decodeL l).1 = 65533 ∧ (decodeL l).2 = 1)
/-- What the iterator hands on: the runes, and -1 where the bytes are no text. -/
def itemsF : Nat → List UInt8 → List Int
  | 0, _ => []
  | n + 1, l => if l = [] then [] else if badB l then [-1] else ((decodeL l).1 : Int) :: itemsF n (l.drop (decodeL l).2)
def items (l : List UInt8) : List Int := itemsF l.length l

theorem itemsF_nil : ∀ n, itemsF n [] = []
  | 0 => rfl
  | _ + 1 => by simp [itemsF]
theorem itemsF_fuel : ∀ (n m : Nat) (l : List UInt8), l.length ≤ n → l.length ≤ m → itemsF n l = itemsF m l
  | 0, m, l, hn, _ => by
    have : l = [] := List.eq_nil_of_length_eq_zero (by omega)
    subst this; rw [itemsF_nil, itemsF_nil]
  | n + 1, 0, l, _, hm => by
    have : l = [] := List.eq_nil_of_length_eq_zero (by omega)
    subst this; rw [itemsF_nil, itemsF_nil]
  | n + 1, m + 1, l, hn, hm => by
    unfold itemsF
    by_cases hne : l = []
    · simp [hne]
    · have hw := decodeL_width l
      have hl : 0 < l.length := List.length_pos_iff.2 hne
      rw [if_neg hne, if_neg hne, itemsF_fuel n m (l.drop (decodeL l).2) (by rw [List.length_drop]; omega) (by rw [List.length_drop]; omega)]
theorem items_nil : items [] = [] := rfl
theorem items_step (l : List UInt8) (hne : l ≠ []) : items l = if badB l then [-1] else ((decodeL l).1 : Int) :: items (l.drop (decodeL l).2) := by
  have hl : 0 < l.length := List.length_pos_iff.2 hne
  have hw := decodeL_width l
  obtain ⟨n, hn⟩ : ∃ n, l.length = n + 1 := ⟨l.length - 1, by omega⟩
  unfold items
  rw [hn]
  show (if l = [] then [] else _) = _
  rw [if_neg hne, itemsF_fuel n (l.drop (decodeL l).2).length _ (by rw [List.length_drop]; omega) (Nat.le_refl _)]
theorem valid_step (l : List UInt8) (hne : l ≠ []) : validD l = if badB l then false else validD (l.drop (decodeL l).2) := by
  rw [validD_step l hne]; unfold badB
  by_cases h : (decodeL l).1 = 65533 ∧ (decodeL l).2 = 1 <;> simp [h]

/-- An induction along the runes. -/
theorem byRunes {C : List UInt8 → Prop} (h0 : C []) (h1 : ∀ l, l ≠ [] → badB l = true → C l) (h2 : ∀ l, l ≠ [] → badB l = false → C (l.drop (decodeL l).2) → C l) : ∀ l, C l := by
  intro l
  obtain ⟨n, hn⟩ : ∃ n, l.length = n := ⟨_, rfl⟩
  induction n using Nat.strongRecOn generalizing l with
  | _ n ih =>
    by_cases hne : l = []
    · subst hne; exact h0
    · cases hb : badB l with
      | true => exact h1 l hne hb
      | false =>
        refine h2 l hne hb (ih _ ?_ _ rfl)
        have hw := decodeL_width l
        have hl : 0 < l.length := List.length_pos_iff.2 hne
        rw [List.length_drop]; omega

theorem items_valid (l : List UInt8) : (∀ x ∈ items l, x ≠ -1) ↔ validD l = true := by
  refine byRunes (C := fun l => (∀ x ∈ items l, x ≠ -1) ↔ validD l = true) ?_ ?_ ?_ l
  · simp [items_nil, validD_nil]
  · intro l hne hb
    rw [items_step l hne, valid_step l hne, hb]; simp
  · intro l hne hb ih
    rw [items_step l hne, valid_step l hne, hb]
    simp only [Bool.false_eq_true, if_false, List.mem_cons, forall_eq_or_imp, ih]
    constructor
    · exact fun h => h.2
    · exact fun h => ⟨by omega, h⟩

theorem items_le (l : List UInt8) : (items l).length ≤ l.length := by
  refine byRunes (C := fun l => (items l).length ≤ l.length) ?_ ?_ ?_ l
  · simp [items_nil]
  · intro l hne hb
    have hl : 0 < l.length := List.length_pos_iff.2 hne
    rw [items_step l hne, hb]; simp; omega
  · intro l hne hb ih
    have hw := decodeL_width l
    have hl : 0 < l.length := List.length_pos_iff.2 hne
    rw [items_step l hne, hb]
    rw [List.length_drop] at ih
    simp; omega

theorem decodeL_rune (l : List UInt8) : Lib.validRune ((decodeL l).1 : Int) = true := by
  rw [decodeL_N]
  have k0 := (l.getD 0 0).toNat_lt
  have k1 := (l.getD 1 0).toNat_lt
  have k2 := (l.getD 2 0).toNat_lt
  have k3 := (l.getD 3 0).toNat_lt
  unfold Lib.validRune
  rcases decodeN_shape l.length (l.getD 0 0).toNat (l.getD 1 0).toNat (l.getD 2 0).toNat (l.getD 3 0).toNat with ⟨c, e⟩ | ⟨c1, c2, c3, cv, e⟩ | ⟨c1, c2, c3, c4, cv, cs, e⟩ | ⟨c1, c2, c3, c4, c5, cv, cw, e⟩ | e
  all_goals (rw [e]; dsimp only; simp only [decide_eq_true_eq]; omega)

theorem items_runes (l : List UInt8) (hv : validD l = true) : ∀ x ∈ items l, Lib.validRune x = true := by
  revert hv
  refine byRunes (C := fun l => validD l = true → ∀ x ∈ items l, Lib.validRune x = true) ?_ ?_ ?_ l
  · simp [items_nil]
  · intro l hne hb hv
    rw [valid_step l hne, hb] at hv; simp at hv
  · intro l hne hb ih hv
    rw [valid_step l hne, hb] at hv
    rw [items_step l hne, hb]
    simp only [Bool.false_eq_true, if_false] at hv ⊢
    intro x hx
    rcases List.mem_cons.1 hx with rfl | hx
    · exact decodeL_rune l
    · exact ih hv x hx

/-- The text of runes. -/
def encL (l : List Int) : List UInt8 := l.flatMap encodeRune
theorem encL_nil : encL [] = [] := rfl
theorem encL_cons (r : Int) (l : List Int) : encL (r :: l) = encodeRune r ++ encL l := rfl
theorem encL_append (x y : List Int) : encL (x ++ y) = encL x ++ encL y := by simp [encL]

/-- What was decoded is encoded as it was. -/
theorem enc_items (l : List UInt8) (hv : validD l = true) : encL (items l) = l := by
  revert hv
  refine byRunes (C := fun l => validD l = true → encL (items l) = l) ?_ ?_ ?_ l
  · simp [items_nil, encL]
  · intro l hne hb hv
    rw [valid_step l hne, hb] at hv; simp at hv
  · intro l hne hb ih hv
    rw [valid_step l hne, hb] at hv
    rw [items_step l hne, hb]
    simp only [Bool.false_eq_true, if_false] at hv ⊢
    rw [encL_cons, ih hv, encode_decode l hne (by unfold badB at hb; simpa using hb), List.take_append_drop]

theorem byteNat (z : Int) (n : Nat) (h : z = n) (hn : n < 256) : (z.toNat.toUInt8).toNat = n := by subst h; simp; omega
theorem decodeN_one (n m c d e : Nat) (h : n ≤ 127) : decodeN m n c d e = (n, 1) := by unfold decodeN; rw [if_pos (by omega)]
theorem decodeN_two (n m c d : Nat) (h0 : 128 ≤ n) (h1 : n ≤ 2047) (hm : 1 < m) : decodeN m (192 + n / 64) (128 + n % 64) c d = (n, 2) := by
  unfold decodeN; rw [if_neg (by omega), if_pos (by omega), if_pos (by omega), Prod.mk.injEq]; exact ⟨by omega, rfl⟩
theorem decodeN_three (n m d : Nat) (h0 : 2048 ≤ n) (h1 : n ≤ 65535) (h2 : n < 55296 ∨ 57343 < n) (hm : 2 < m) : decodeN m (224 + n / 4096) (128 + n / 64 % 64) (128 + n % 64) d = (n, 3) := by
  unfold decodeN; rw [if_neg (by omega), if_neg (by omega), if_pos (by omega), if_pos (by omega), Prod.mk.injEq]; exact ⟨by omega, rfl⟩
theorem decodeN_four (n m : Nat) (h0 : 65536 ≤ n) (h1 : n ≤ 1114111) (hm : 3 < m) : decodeN m (240 + n / 262144) (128 + n / 4096 % 64) (128 + n / 64 % 64) (128 + n % 64) = (n, 4) := by
  unfold decodeN; rw [if_neg (by omega), if_neg (by omega), if_neg (by omega), if_pos (by omega), if_pos (by omega), Prod.mk.injEq]; exact ⟨by omega, rfl⟩

/-- What was encoded is decoded: the first rune of an encoded rune and whatever follows. -/
theorem decode_encode (r : Int) (t : List UInt8) (h : Lib.validRune r = true) : decodeL (encodeRune r ++ t) = (r.toNat, (encodeRune r).length) := by
  have hv : (0 ≤ r ∧ r < 0xD800) ∨ (0xDFFF < r ∧ r ≤ 0x10FFFF) := by simpa [Lib.validRune] using h
  rw [decodeL_N]
  unfold encodeRune
  obtain ⟨n, rfl⟩ : ∃ n : Nat, r = n := ⟨r.toNat, by omega⟩
  by_cases a : n ≤ 127
  · rw [encodeRuneZ_one (by omega) (by omega)]
    simp only [List.map_cons, List.map_nil, List.cons_append, List.nil_append, List.length_cons, List.getD_cons_zero, List.getD_cons_succ, List.length_nil]
    rw [byteNat _ n rfl (by omega), decodeN_one _ _ _ _ _ (by omega)]; simp
  · by_cases b : n ≤ 2047
    · rw [encodeRuneZ_two (by omega) (by omega)]
      simp only [List.map_cons, List.map_nil, List.cons_append, List.nil_append, List.length_cons, List.getD_cons_zero, List.getD_cons_succ, List.length_nil]
      rw [byteNat _ (192 + n / 64) (by omega) (by omega), byteNat _ (128 + n % 64) (by omega) (by omega), decodeN_two _ _ _ _ (by omega) (by omega) (by omega)]; simp
    · by_cases c : n ≤ 65535
      · rw [encodeRuneZ_three (by omega)]
        simp only [List.map_cons, List.map_nil, List.cons_append, List.nil_append, List.length_cons, List.getD_cons_zero, List.getD_cons_succ, List.length_nil]
        rw [byteNat _ (224 + n / 4096) (by omega) (by omega), byteNat _ (128 + n / 64 % 64) (by omega) (by omega), byteNat _ (128 + n % 64) (by omega) (by omega), decodeN_three _ _ _ (by omega) (by omega) (by omega) (by omega)]; simp
      · rw [encodeRuneZ_four (by omega) (by omega)]
        simp only [List.map_cons, List.map_nil, List.cons_append, List.nil_append, List.length_cons, List.getD_cons_zero, List.getD_cons_succ, List.length_nil]
        rw [byteNat _ (240 + n / 262144) (by omega) (by omega), byteNat _ (128 + n / 4096 % 64) (by omega) (by omega), byteNat _ (128 + n / 64 % 64) (by omega) (by omega), byteNat _ (128 + n % 64) (by omega) (by omega), decodeN_four _ _ (by omega) (by omega) (by omega)]; simp

theorem encodeRune_len (r : Int) : 1 ≤ (encodeRune r).length ∧ (encodeRune r).length ≤ 4 := by
  have := encodeRuneZ_length r; simpa [encodeRune] using this
theorem encodeRune_len_valid (r : Int) (h : Lib.validRune r = true) (h1 : (encodeRune r).length = 1) : r ≠ 65533 := by
  rintro rfl
  rw [encodeRune, encodeRuneZ_three (by omega)] at h1; simp at h1
theorem valid_nonneg {r : Int} (h : Lib.validRune r = true) : 0 ≤ r := by
  have hv : (0 ≤ r ∧ r < 0xD800) ∨ (0xDFFF < r ∧ r ≤ 0x10FFFF) := by simpa [Lib.validRune] using h
  omega
/-- One rune in front of whatever bytes. -/
theorem items_enc (r : Int) (t : List UInt8) (h : Lib.validRune r = true) : items (encodeRune r ++ t) = r :: items t ∧ validD (encodeRune r ++ t) = validD t := by
  have hl := encodeRune_len r
  have hne : encodeRune r ++ t ≠ [] := by intro e; have := congrArg List.length e; rw [List.length_append, List.length_nil] at this; omega
  have hd := decode_encode r t h
  have hb : badB (encodeRune r ++ t) = false := by
    unfold badB; rw [hd]
    simp only [decide_eq_false_iff_not]
    rintro ⟨a, b⟩
    have h0 := valid_nonneg h
    exact encodeRune_len_valid r h b (by omega)
  rw [items_step _ hne, valid_step _ hne, hb, hd]
  simp only [Bool.false_eq_true, if_false]
  rw [List.drop_left]
  have h0 := valid_nonneg h
  exact ⟨by rw [Int.toNat_of_nonneg h0], rfl⟩
theorem items_encL (l : List Int) (t : List UInt8) (h : ∀ r ∈ l, Lib.validRune r = true) : items (encL l ++ t) = l ++ items t ∧ validD (encL l ++ t) = validD t := by
  induction l with
  | nil => simp [encL]
  | cons r l ih =>
    rw [encL_cons, List.append_assoc]
    have h1 := items_enc r (encL l ++ t) (h r (by simp))
    have h2 := ih (fun x hx => h x (by simp [hx]))
    rw [h1.1, h1.2, h2.1, h2.2]; simp
/-- What is encoded is a text, and decoded as it was. -/
theorem items_of_enc (l : List Int) (h : ∀ r ∈ l, Lib.validRune r = true) : items (encL l) = l ∧ validD (encL l) = true := by
  have := items_encL l [] h
  simpa [items_nil, validD_nil] using this
/-- Two texts one behind the other, the first a text. -/
theorem items_join (a b : List UInt8) (ha : validD a = true) : items (a ++ b) = items a ++ items b ∧ validD (a ++ b) = validD b := by
  have h := items_encL (items a) b (items_runes a ha)
  rwa [enc_items a ha] at h
theorem encL_le (l : List Int) : (encL l).length ≤ 4 * l.length := by
  induction l with
  | nil => simp [encL]
  | cons r l ih => rw [encL_cons, List.length_append, List.length_cons]; have := encodeRune_len r; omega
theorem items_eq_nil (l : List UInt8) : items l = [] ↔ l = [] := by
  constructor
  · intro h
    by_cases hne : l = []
    · exact hne
    · rw [items_step l hne] at h; split at h <;> simp at h
  · rintro rfl; rfl
/-- A letter. -/
def letterB (r : Int) : Bool := decide ((65 ≤ r ∧ r ≤ 90) ∨ (97 ≤ r ∧ r ≤ 122) ∨ (192 ≤ r ∧ Lib.validRune r = true ∧ r ≠ 215 ∧ r ≠ 247 ∧ ¬ (8192 ≤ r ∧ r ≤ 8303)))
end Go.Proofs.YtbbkkoeipkigdaaDoor

/- The runes that runesOf hands on: the iterator's contract, for every text, and for bytes that are none. -/
namespace Go.Proofs.YtbbkkoeipkigdaaDoor
open Go.RowKit Go.Shelf
attribute [local go_sem] Oper.semAt_some

/-- The two tables of unicode/utf8, as they are laid. -/
abbrev Tabs (w : World) : Prop := Lib.Utf8Tabs 0 1 w
theorem Tabs.below {w w' : World} (h : Tabs w) (hb : Below w.heap.size w w') : Tabs w' := Utf8Tabs_below h hb

theorem decodeGo_at (s : ByteArray) (k : Nat) (h : k < s.size) : Lib.decodeGo (s.extract k s.size) = Lib.decodeL (s.data.toList.drop k) := by
  have hsz : ¬ (s.extract k s.size).size = 0 := by simp; omega
  unfold Lib.decodeGo Lib.decodeL
  rw [if_neg hsz]
  congr 1
  have := Lib.extract_to_end s k
  rw [← this]
theorem drop_ne (s : ByteArray) (k : Nat) (h : k < s.size) : s.data.toList.drop k ≠ [] := by
  intro e
  have := congrArg List.length e
  rw [List.length_drop, List.length_nil, ← Lib.size_eq] at this
  omega
theorem grown_none {w w' : World} (h : Below w.heap.size w w') : w.grownBy w' none := ⟨h.os, h.tape, h.output, h.size, fun k hk _ => h.block k hk⟩

/-- What a round keeps: all below n₀, and the box of the text. -/
def Keep (n₀ Bs : Nat) (W W' : World) : Prop := Below n₀ W W' ∧ W'.heap[Bs]? = W.heap[Bs]?
theorem Keep.refl (n₀ Bs : Nat) (W : World) : Keep n₀ Bs W W := ⟨Below.refl _ _, rfl⟩
theorem Keep.trans {n₀ Bs : Nat} {A B C : World} (h : Keep n₀ Bs A B) (k : Keep n₀ Bs B C) : Keep n₀ Bs A C := ⟨h.1.trans k.1, k.2.trans h.2⟩
theorem Keep.of_below {n₀ Bs : Nat} {A B : World} (h : Below A.heap.size A B) (hn : n₀ ≤ A.heap.size) (hB : Bs < A.heap.size) : Keep n₀ Bs A B := ⟨h.mono hn, h.block Bs hB⟩
theorem keepK_b {n₀ Bs : Nat} {w : World} (hn : n₀ ≤ w.heap.size) (hBs : Bs < w.heap.size) (W : World) (l : Nat) (o o' : Obj) (hl : w.heap.size ≤ l) (h : W.heap[l]? = some o) (h1 : o.isCells = false) (h2 : o.isWalk = false) : Keep n₀ Bs W (W.putObj l o') :=
  ⟨belowK_b hn W l o o' hl h h1 h2, World.putObj_heap_other (fun e => by omega)⟩

set_option maxRecDepth 100000 in
set_option maxHeartbeats 2000000 in
theorem iter_in (n : Nat) (hn : 1 ≤ n) (l Bs n₀ : Nat) (s : ByteArray) (hs : s.size ≤ maxLen) (J Jx : List Int → World → Prop)
    (W : World) (hJ : AbidesFrom W.heap.size J)
    (hY : ∀ pre x W1, J pre W1 → pre.length < s.size → YieldAt Fence.wide (n - 1) Tryd.prog l #[.int .i32 x] W1 fun e W' =>
      (e = .returned (.bool true) ∧ J (pre ++ [x]) W' ∧ Keep n₀ Bs W1 W') ∨ (e = .returned (.bool false) ∧ Jx (pre ++ [x]) W'))
    (hn0 : n₀ ≤ W.heap.size) (hBs : Bs < W.heap.size) (hT0 : Tabs W) (hlow : 0 < n₀ ∧ 1 < n₀)
    (hc : W.cell? ⟨Bs, 0, none⟩ = some (.string s)) (h0 : J [] W) :
    CallsIn Fence.wide n Tryd.prog 59 #[.func (.yield l) #[] #[], .pointer (some ⟨Bs, 0, none⟩)] W fun e W' => (∃ v, e = .returned v) ∧
      ((∃ ys, ys = items s.data.toList ∧ J ys W') ∨ (∃ pre, pre <+: items s.data.toList ∧ Jx pre W')) := by
  unfold maxLen at hs
  refine callsIn_of_wp Tryd.func59 rfl trivial ?_ rfl
  simp only [Tryd.ntmps59, List.size_toArray, List.length_cons, List.length_nil, Nat.reduceAdd, Nat.reduceSub, Array.replicate_succ, Array.replicate_zero, List.push_toArray, List.append_toArray, List.nil_append, List.cons_append]
  gi_wp2
  gi_loopw [3] (fun p wr => ∃ (k : Nat) (pre : List Int), p = .int .i64 k ∧ k ≤ s.size ∧ pre.length ≤ k ∧ Hid (items s.data.toList = pre ++ items (s.data.toList.drop k)) ∧ J pre wr ∧ Keep n₀ Bs W wr)
    (fun p _ => s.size - (intOf p).toNat)
  case atStart => exact ⟨0, [], rfl, Nat.zero_le _, Nat.le_refl _, Lib.hid (by simp), h0, Keep.refl _ _ _⟩
  case round =>
    obtain ⟨k, pre, rfl, hk, hpk, HI, hJs, hKB⟩ := hrel
    have hB := hKB.1
    have hcell : wr.cell? ⟨Bs, 0, none⟩ = some (.string s) := (World.cell?_of_block hKB.2).trans hc
    have hT : Tabs wr := ⟨fun c h => (hB.cell (p := ⟨_, c, none⟩) hlow.1).trans (hT0.1 c h), fun i h => ⟨(hB.cell (p := ⟨_, 2 * i, none⟩) hlow.2).trans (hT0.2 i h).1, (hB.cell (p := ⟨_, 2 * i + 1, none⟩) hlow.2).trans (hT0.2 i h).2⟩⟩
    by_cases hlt : k < s.size
    · have hd := decodeGo_at s k hlt
      have hne := drop_ne s k hlt
      have hst := items_step _ hne
      have hle := Lib.decodeL_le _ hne
      have hwd := Lib.decodeL_width (s.data.toList.drop k)
      rw [List.length_drop, ← Lib.size_eq] at hle
      have C := Lib.hid (Tryd.utf8_DecodeRuneInString (s.extract k s.size) wr hT)
      rw [hd] at C
      have hbd : badB (s.data.toList.drop k) = decide ((Lib.decodeL (s.data.toList.drop k)).1 = 65533 ∧ (Lib.decodeL (s.data.toList.drop k)).2 = 1) := rfl
      have hdd : items ((s.data.toList.drop k).drop (Lib.decodeL (s.data.toList.drop k)).2) = items (s.data.toList.drop (k + (Lib.decodeL (s.data.toList.drop k)).2)) := by rw [List.drop_drop]
      rw [hdd] at hst
      obtain ⟨R, hR⟩ : ∃ R, (Lib.decodeL (s.data.toList.drop k)).1 = R := ⟨_, rfl⟩
      obtain ⟨K, hK⟩ : ∃ K, (Lib.decodeL (s.data.toList.drop k)).2 = K := ⟨_, rfl⟩
      rw [hR, hK] at C hst hbd
      rw [hK] at hle hwd
      rw [hbd] at hst
      have HS := Lib.hid hst
      clear hst hbd hdd hR hK hd hne
      by_cases hbad : R = 65533 ∧ K = 1
      · obtain ⟨rfl, rfl⟩ := hbad
        gi_wp2_with (refine ⟨trivial, ?_⟩; gi_at_call 60; refine (callsIn_wide.2 C.out).mono ?_; rintro e w1 ⟨rfl, hb1⟩; have hJ1 : J pre w1 := hJ _ _ _ none hJs (grown_none hb1) (fun _ h => by cases h); obtain ⟨fn, tmps, assign, body, hy, hR⟩ := hY pre (-1) w1 hJ1 (by omega))
        refine hR.mono ?_
        rintro e W3 (⟨rfl, hJ3, hk3⟩ | ⟨rfl, hJx3⟩)
        · gi_wp2
          refine bodyPost_ret (results_none rfl _ _ _) rfl ?_
          exact ⟨⟨_, rfl⟩, .inl ⟨pre ++ [-1], by rw [HI.out, HS.out]; simp, hJ3⟩⟩
        · gi_wp2
          refine bodyPost_ret (results_none rfl _ _ _) rfl ?_
          exact ⟨⟨_, rfl⟩, .inr ⟨pre ++ [-1], by rw [HI.out, HS.out]; simp, hJx3⟩⟩
      · have HS2 : Hid (items (s.data.toList.drop k) = (R : Int) :: items (s.data.toList.drop (k + K))) := Lib.hid (by rw [HS.out]; simp [hbad])
        by_cases hr : R = 65533
        · subst hr
          have hk1 : ((K : Int) == 1) = false := by simp; omega
          clear hbad
          gi_wp2_with (refine ⟨trivial, ?_⟩; gi_at_call 60; refine (callsIn_wide.2 C.out).mono ?_; rintro e w1 ⟨rfl, hb1⟩; have hJ1 : J pre w1 := hJ _ _ _ none hJs (grown_none hb1) (fun _ h => by cases h); have hB1 : Keep n₀ Bs W w1 := hKB.trans (Keep.of_below hb1 (Nat.le_trans hn0 hB.size) (Nat.lt_of_lt_of_le hBs hB.size)); obtain ⟨fn, tmps, assign, body, hy, hR⟩ := hY pre 65533 w1 hJ1 (by omega))
          refine hR.mono ?_
          rintro e W3 (⟨rfl, hJ3, hk3⟩ | ⟨rfl, hJx3⟩)
          · gi_wp2
            go_roundw
            case rel => exact ⟨k + K, pre ++ [65533], by go_num, by omega, by simp; omega, Lib.hid (by rw [HI.out, HS2.out]; simp), hJ3, hB1.trans hk3⟩
            case measure => simp [intOf]; omega
          · gi_wp2
            refine bodyPost_ret (results_none rfl _ _ _) rfl ?_
            exact ⟨⟨_, rfl⟩, .inr ⟨pre ++ [65533], by rw [HI.out, HS2.out]; simp [List.prefix_append_right_inj], hJx3⟩⟩
        · have hr1 : ((R : Int) == 65533) = false := by simp; omega
          clear hbad
          gi_wp2_with (refine ⟨trivial, ?_⟩; gi_at_call 60; refine (callsIn_wide.2 C.out).mono ?_; rintro e w1 ⟨rfl, hb1⟩; have hJ1 : J pre w1 := hJ _ _ _ none hJs (grown_none hb1) (fun _ h => by cases h); have hB1 : Keep n₀ Bs W w1 := hKB.trans (Keep.of_below hb1 (Nat.le_trans hn0 hB.size) (Nat.lt_of_lt_of_le hBs hB.size)); obtain ⟨fn, tmps, assign, body, hy, hR⟩ := hY pre (R : Nat) w1 hJ1 (by omega))
          refine hR.mono ?_
          rintro e W3 (⟨rfl, hJ3, hk3⟩ | ⟨rfl, hJx3⟩)
          · gi_wp2
            go_roundw
            case rel => exact ⟨k + K, pre ++ [(R : Int)], by go_num, by omega, by simp; omega, Lib.hid (by rw [HI.out, HS2.out]; simp), hJ3, hB1.trans hk3⟩
            case measure => simp [intOf]; omega
          · gi_wp2
            refine bodyPost_ret (results_none rfl _ _ _) rfl ?_
            exact ⟨⟨_, rfl⟩, .inr ⟨pre ++ [(R : Int)], by rw [HI.out, HS2.out]; simp [List.prefix_append_right_inj], hJx3⟩⟩
    · obtain rfl : k = s.size := by omega
      gi_wp2
      go_end0
      exact ⟨⟨_, rfl⟩, .inl ⟨pre, by rw [HI.out, List.drop_of_length_le (by rw [← Lib.size_eq]; exact Nat.le_refl _), items_nil, List.append_nil], hJs⟩⟩

/-- runesOf(s): s is boxed, and the function value captures the box. -/
theorem runesOf_any (s : ByteArray) (w : World) :
    Calls Tryd.prog 37 #[.string s] w fun e w' => e = .returned (.func (.func 59) #[] #[.pointer (some ⟨w.heap.size, 0, none⟩)]) ∧ w' = w.alloc (.cells #[.string s] 9) := by
  go_enter Tryd.func37, Tryd.ntmps37
  go_wp2
  go_ret
  exact ⟨rfl, rfl⟩

theorem iter_stops (n : Nat) (hn : 1 ≤ n) (Bs n₀ : Nat) (s : ByteArray) (hs : s.size ≤ maxLen) (w : World) (hn0 : n₀ ≤ w.heap.size) (hBs : Bs < w.heap.size) (hT : Tabs w) (hlow : 0 < n₀ ∧ 1 < n₀)
    (hc : w.cell? ⟨Bs, 0, none⟩ = some (.string s)) :
    SeqStopsK Fence.wide n Tryd.prog 59 #[.pointer (some ⟨Bs, 0, none⟩)] (fun x : Int => #[Value.int .i32 x]) (Keep n₀ Bs) (fun ys => ys = items s.data.toList) (fun pre => pre <+: items s.data.toList) s.size w :=
  fun l J Jx W hW hJ _ hY h0 => iter_in n hn l Bs n₀ s hs J Jx W hJ hY (Nat.le_trans hn0 hW.size) (Nat.lt_of_lt_of_le hBs hW.size) (hT.below hW) hlow ((hW.cell (p := ⟨Bs, 0, none⟩) hBs).trans hc) h0
end Go.Proofs.YtbbkkoeipkigdaaDoor

/- runes.Decode, Letter, Letters, Token: what each answers, for every string. -/
namespace Go.Proofs.YtbbkkoeipkigdaaDoor
open Go.RowKit Go.Shelf
attribute [local go_sem] Oper.semAt_some

theorem info32 : (Tryd.prog.info? 21).map (fun i => (i.zero, i.size, i.bytes)) = some (some (.int .i32 0), 1, 4) := by kernel_rfl

/-- What Decode answers: the runes and 0, or nothing and 3. -/
def DecPost (s : ByteArray) (w : World) (e : Ending) (w' : World) : Prop :=
  ∃ v, e = .returned (.tuple #[v, .int .i64 (if Lib.validD s.data.toList then 0 else 3)]) ∧
    w'.ownsRow w.heap.size 21 1 v (if Lib.validD s.data.toList then items s.data.toList else []).length ((if Lib.validD s.data.toList then items s.data.toList else []).map (Value.int .i32)) ∧ Below w.heap.size w w'

set_option maxRecDepth 100000 in
set_option maxHeartbeats 2000000 in
theorem decode_any (s : ByteArray) (w : World) (hs : s.size * 4 ≤ 140737488355328) (hT : Tabs w) (hlow : 0 < w.heap.size ∧ 1 < w.heap.size) :
    Calls Tryd.prog 22 #[.string s] w (DecPost s w) := by
  have hsm : s.size ≤ maxLen := by unfold maxLen; omega
  obtain ⟨i0, hi, hz0, hz1, hz2⟩ := info_parts info32
  refine (callsIn_wide (n := 6)).1 ?_
  refine callsIn_of_wp_marks Tryd.func22 rfl trivial ?_ rfl
  simp only [Tryd.ntmps22, List.size_toArray, List.length_cons, List.length_nil, Nat.reduceAdd, Nat.reduceSub, Array.replicate_succ, Array.replicate_zero, List.push_toArray, List.append_toArray, List.nil_append, List.cons_append]
  gi_wp2
  refine wpIn_wide.2 (wp_scope_straight ((wpIn_wide (n := 6)).1 ?_))
  gi_wp2_with (first | (refine ⟨trivial, ?_⟩; gi_at_call 37; refine (callsIn_wide.2 (runesOf_any _ _)).mono ?_; rintro e w' ⟨rfl, rfl⟩) | (refine wpIn_label ?_))
  have bL := Boxed.new w 46 (.slice none 0 0)
  have bE := Boxed.new (w.alloc (.cells #[.slice none 0 0] 46)) 26 (.int .i64 0)
  have bS := Boxed.new ((w.alloc (.cells #[.slice none 0 0] 46)).alloc (.cells #[.int .i64 0] 26)) 9 (.string s)
  rw [World.size_alloc] at bE
  rw [World.size_alloc, World.size_alloc] at bS
  have hB0 : Below w.heap.size w (((w.alloc (.cells #[.slice none 0 0] 46)).alloc (.cells #[.int .i64 0] 26)).alloc (.cells #[.string s] 9)) := (((Below.refl _ w).alloc (Nat.le_refl _) _).alloc (by simp) _).alloc (by simp; omega) _
  refine wpIn_rangeFunc_ownG rfl (by decide) (gf := 59) (lb := #[.pointer (some ⟨w.heap.size + 1 + 1, 0, none⟩)]) rfl trivial (enters_of Tryd.func59 (by kernel_rfl) rfl)
    (iter_stops 5 (by decide) (w.heap.size + 1 + 1) w.heap.size s hsm _ (by simp; omega) (by simp) (hT.below hB0) hlow bS.cell) Keep.trans (keepK_b (by simp; omega) (by simp)) (Below.refl _ _) (fun _ => rfl)
    (fun (pre : List Int) W => (((∃ v, Boxed W w.heap.size 46 v ∧ W.ownsRow w.heap.size 21 1 v pre.length (pre.map (Value.int .i32)) ∧ ∀ x ∈ pre, x ≠ -1) ∧ Boxed W (w.heap.size + 1) 26 (.int .i64 0)) ∧ Boxed W (w.heap.size + 1 + 1) 9 (.string s)) ∧ Below w.heap.size w W)
    (fun c (pre : List Int) W => (((c = .exit 0 ∧ (-1) ∈ pre) ∧ Boxed W w.heap.size 46 (.slice none 0 0)) ∧ Boxed W (w.heap.size + 1) 26 (.int .i64 3)) ∧ Below w.heap.size w W)
    (OwnFrom.and (OwnFrom.and (OwnFrom.and (Own.from (holdsRow_own w.heap.size w.heap.size 46 21 1 (fun pre : List Int => pre.length) (fun pre : List Int => pre.map (Value.int .i32)) (fun (pre : List Int) _ => ∀ x ∈ pre, x ≠ -1)) _) (Own.from (boxed_own _ _ _) _)) (Own.from (boxed_own _ _ _) _)) (ownFrom_below (Nat.le_refl _) (by simp; omega)))
    (fun c => OwnFrom.and (OwnFrom.and (OwnFrom.and (ownFrom_pure _ (fun pre : List Int => c = .exit 0 ∧ (-1) ∈ pre)) (Own.from (boxed_own _ _ _) _)) (Own.from (boxed_own _ _ _) _)) (ownFrom_below (Nat.le_refl _) (by simp; omega)))
    ⟨⟨⟨⟨_, (bL.alloc _).alloc _, World.ownsRow_nil _ _ _ _, by simp⟩, bE.alloc _⟩, bS⟩, hB0⟩
    (fun x => { tmps := #[.string s, undef, .slice none 0 0, .int .i64 0, .pointer (some ⟨w.heap.size, 0, none⟩), .pointer (some ⟨w.heap.size + 1, 0, none⟩), .int .i32 x, .string s, .func (.func 59) #[] #[.pointer (some ⟨w.heap.size + 1 + 1, 0, none⟩)], .int .i32 x, undef, undef, undef, undef, undef, undef, undef, undef, undef], defers := [] }) ?assign ?body ?done ?stop
  case assign =>
    intro l x W K hK
    gi_wp2
    exact hK
  case body =>
    rintro l pre x W ⟨⟨⟨⟨v, hv, hrow, hno⟩, hE⟩, hS⟩, hB⟩ hlt
    have hno' := Lib.hid hno; clear hno
    have hc := hv.cell
    have hce := hE.cell
    have hf := hv.frozen
    have hfe := hE.frozen
    by_cases hx : x = -1
    · subst hx
      gi_wp2
      exact ⟨((KeepsOthers.setCell _ _ _).trans (KeepsOthers.setCell _ _ _)).from _, ⟨⟨⟨rfl, by simp⟩, (hv.set _).other (by omega) _⟩, (hE.other (by omega) _).set _⟩, (hB.setCell (p := ⟨w.heap.size, 0, none⟩) (Nat.le_refl _) _).setCell (p := ⟨w.heap.size + 1, 0, none⟩) (Nat.le_succ _) _⟩
    · have hx1 : (x == -1) = false := by simpa using hx
      gi_wp2_with (gi_at_builtin; refine wpListIn_append_own _ rfl _ _ 46 rfl w.heap.size 21 i0 (.int .i32 0) 1 4 Tryd.underlying46 hi hz0 hz1 hz2 rfl (by decide) _ _ _ rfl (hrow.alloc _) ⟨W.heap.size, 0, none⟩ 1 1 [.int .i32 x] rfl rfl (cell_one_new _ _ _) (by simp [Value.oneCell']) (by unfold maxLen; omega) (by omega) (by have := hB.size; simp; omega) ?_; intro v' w1 hown' hgrow _; obtain ⟨g', cap', rfl⟩ := ownsRow_succ hown'; have hE1 := ((hE.alloc _).kept hgrow (hE.not_row (by decide) hrow)).other (by omega : w.heap.size + 1 ≠ w.heap.size) (.slice (some ⟨g', 0, none⟩) (pre.length + 1) cap'); have hS1 := ((hS.alloc _).kept hgrow (hS.not_row (by decide) hrow)).other (by omega : w.heap.size + 1 + 1 ≠ w.heap.size) (.slice (some ⟨g', 0, none⟩) (pre.length + 1) cap'); obtain ⟨hv1, hv2, hr2, hk2, hb2⟩ := hv.appended (by decide) hrow hB.size (Nat.le_refl _) hown' hgrow; have hc1 := hv1.cell; have hf1 := hv1.frozen)
      exact ⟨hk2.from _, ⟨hb2, Eq.trans hS1 (Eq.symm hS)⟩, ⟨⟨⟨_, hv2, by simpa using hr2, fun y hy => by rcases List.mem_append.1 hy with h | h; exact hno'.out y h; simp at h; omega⟩, hE1⟩, hS1⟩, hB.trans hb2⟩
  case done =>
    rintro D ys W hD rfl ⟨⟨⟨⟨v, hv, hrow, hno⟩, hE⟩, hS⟩, hB⟩ hK
    have hc := hv.cell
    have hce := hE.cell
    gi_wp2
    gi_region
    gi_wp2
    refine ⟨by simp, .inl ⟨_, _, rfl, run_takeDeferred hK, ?_⟩⟩
    have hval : Lib.validD s.data.toList = true := (items_valid _).1 hno
    refine ⟨_, results_tmp2 rfl _ _ _, ?_⟩
    unfold DecPost
    rw [hval]
    exact ⟨v, rfl, ownsRow_putObj (W := W.drew) hrow _ hK rfl, hB.drew.trans (belowK_b (w := w) (Nat.le_refl _) W.drew D _ _ (by simp at hD; omega) hK rfl rfl)⟩
  case stop =>
    rintro D c pre W hD hp ⟨⟨⟨⟨rfl, hm⟩, hv⟩, hE⟩, hB⟩ hK
    have hc := hv.cell
    have hce := hE.cell
    gi_wp2
    gi_region
    gi_wp2
    refine ⟨by simp, .inl ⟨_, _, rfl, run_takeDeferred hK, ?_⟩⟩
    have hval : Lib.validD s.data.toList = false := by
      cases h : Lib.validD s.data.toList with
      | false => rfl
      | true => exact absurd rfl ((items_valid _).2 h _ (hp.subset hm))
    refine ⟨_, results_tmp2 rfl _ _ _, ?_⟩
    unfold DecPost
    rw [hval]
    exact ⟨_, rfl, World.ownsRow_nil _ _ _ _, hB.drew.trans (belowK_b (w := w) (Nat.le_refl _) W.drew D _ _ (by simp at hD; omega) hK rfl rfl)⟩
end Go.Proofs.YtbbkkoeipkigdaaDoor

/- runes.Letter, Letters, Token: what each answers, for every number and every string. -/
namespace Go.Proofs.YtbbkkoeipkigdaaDoor
open Go.RowKit Go.Shelf
attribute [local go_sem] Oper.semAt_some

theorem letter_cases (r : Int) : r < 65 ∨ (65 ≤ r ∧ r ≤ 90) ∨ (91 ≤ r ∧ r ≤ 96) ∨ (97 ≤ r ∧ r ≤ 122) ∨ (123 ≤ r ∧ r ≤ 191) ∨ r = 215 ∨ r = 247 ∨ (8192 ≤ r ∧ r ≤ 8303) ∨ (192 ≤ r ∧ r ≤ 214) ∨ (216 ≤ r ∧ r ≤ 246) ∨ (248 ≤ r ∧ r ≤ 8191) ∨ 8304 ≤ r := by omega
theorem letter_hi (r : Int) (h : 192 ≤ r) (h1 : r ≠ 215) (h2 : r ≠ 247) (h3 : ¬ (8192 ≤ r ∧ r ≤ 8303)) : Lib.validRune r = letterB r := by
  unfold letterB
  cases hv : Lib.validRune r
  · symm; simp only [decide_eq_false_iff_not]; intro h; rcases h with h | h | h
    · omega
    · omega
    · exact absurd h.2.1 (by simp)
  · symm; simp only [decide_eq_true_eq]; right; right; exact ⟨h, by simp, h1, h2, h3⟩
theorem letter_no (r : Int) (h : r < 65 ∨ (91 ≤ r ∧ r ≤ 96) ∨ (123 ≤ r ∧ r ≤ 191) ∨ r = 215 ∨ r = 247 ∨ (8192 ≤ r ∧ r ≤ 8303)) : letterB r = false := by
  unfold letterB; simp only [decide_eq_false_iff_not]; intro h'; rcases h' with h' | h' | ⟨h1, h2, h3, h4, h5⟩ <;> omega
theorem letter_yes (r : Int) (h : (65 ≤ r ∧ r ≤ 90) ∨ (97 ≤ r ∧ r ≤ 122)) : letterB r = true := by
  unfold letterB; simp only [decide_eq_true_eq]; omega

/-- Letters: some bytes, and nothing but letters. -/
def lettersB (l : List UInt8) : Bool := !l.isEmpty && (items l).all letterB


def decErr (l : List UInt8) : Int := if Lib.validD l then 0 else 3
def decRunes (l : List UInt8) : List Int := if Lib.validD l then items l else []
/-- Decode, its answer read as a list. -/
theorem decode_runs (s : ByteArray) (w : World) (hs : s.size * 4 ≤ 140737488355328) (hT : Tabs w) (hlow : 0 < w.heap.size ∧ 1 < w.heap.size) :
    Calls Tryd.prog 22 #[.string s] w fun e w' => ∃ A c, e = .returned (.tuple #[.slice A (decRunes s.data.toList).length c, .int .i64 (decErr s.data.toList)]) ∧ Runs w' (.slice A (decRunes s.data.toList).length c) (decRunes s.data.toList) ∧ Below w.heap.size w w' := by
  refine (decode_any s w hs hT hlow).mono ?_
  rintro e w' ⟨v, rfl, hrow, hb⟩
  have hr : Runs w' v (decRunes s.data.toList) := Runs.of_own hrow
  have hr' := hr
  obtain ⟨A, c, rfl, _⟩ := hr'
  exact ⟨A, c, rfl, hr, hb⟩

def tokErr (l : List UInt8) : Int := if Lib.validD l then (if (items l).length = 0 then 4 else if 64 < (items l).length then 5 else 0) else 3
def tokRunes (l : List UInt8) : List Int := if tokErr l = 0 then items l else []

end Go.Proofs.YtbbkkoeipkigdaaDoor

/- Two texts one behind the other; texts compare as their bytes do: plain. -/
namespace Go.Proofs.YtbbkkoeipkigdaaDoor
open Go.Lib

theorem rune_bd {r : Int} (h : Lib.validRune r = true) : (0 ≤ r ∧ r < 0xD800) ∨ (0xDFFF < r ∧ r ≤ 0x10FFFF) := by simpa [Lib.validRune] using h
/-- The four forms of a rune's bytes. -/
theorem enc_forms (r : Int) (h : Lib.validRune r = true) : ∃ n : Nat, r = n ∧
    ((n ≤ 127 ∧ encodeRune r = [n.toUInt8]) ∨ (128 ≤ n ∧ n ≤ 2047 ∧ encodeRune r = [(192 + n / 64).toUInt8, (128 + n % 64).toUInt8]) ∨
     (2048 ≤ n ∧ n ≤ 65535 ∧ encodeRune r = [(224 + n / 4096).toUInt8, (128 + n / 64 % 64).toUInt8, (128 + n % 64).toUInt8]) ∨
     (65536 ≤ n ∧ n ≤ 1114111 ∧ encodeRune r = [(240 + n / 262144).toUInt8, (128 + n / 4096 % 64).toUInt8, (128 + n / 64 % 64).toUInt8, (128 + n % 64).toUInt8])) := by
  have hv := rune_bd h
  obtain ⟨n, rfl⟩ : ∃ n : Nat, r = n := ⟨r.toNat, by omega⟩
  refine ⟨n, rfl, ?_⟩
  unfold encodeRune
  by_cases a : n ≤ 127
  · left; rw [encodeRuneZ_one (by omega) (by omega)]; exact ⟨a, by simp⟩
  · by_cases b : n ≤ 2047
    · right; left; rw [encodeRuneZ_two (by omega) (by omega)]
      refine ⟨by omega, b, ?_⟩
      simp only [List.map_cons, List.map_nil]
      rw [show (192 + (n : Int) / 64).toNat = 192 + n / 64 by omega, show (128 + (n : Int) % 64).toNat = 128 + n % 64 by omega]
    · by_cases c : n ≤ 65535
      · right; right; left; rw [encodeRuneZ_three (by omega)]
        refine ⟨by omega, c, ?_⟩
        simp only [List.map_cons, List.map_nil]
        rw [show (224 + (n : Int) / 4096).toNat = 224 + n / 4096 by omega, show (128 + (n : Int) / 64 % 64).toNat = 128 + n / 64 % 64 by omega, show (128 + (n : Int) % 64).toNat = 128 + n % 64 by omega]
      · right; right; right; rw [encodeRuneZ_four (by omega) (by omega)]
        refine ⟨by omega, by omega, ?_⟩
        simp only [List.map_cons, List.map_nil]
        rw [show (240 + (n : Int) / 262144).toNat = 240 + n / 262144 by omega, show (128 + (n : Int) / 4096 % 64).toNat = 128 + n / 4096 % 64 by omega, show (128 + (n : Int) / 64 % 64).toNat = 128 + n / 64 % 64 by omega, show (128 + (n : Int) % 64).toNat = 128 + n % 64 by omega]
theorem u8n (n : Nat) (h : n < 256) : n.toUInt8.toNat = n := by simp; omega

theorem head_lead (r : Int) (h : Lib.validRune r = true) : ((encodeRune r).getD 0 0).toNat / 64 ≠ 2 := by
  obtain ⟨n, rfl, ⟨h1, e⟩ | ⟨h1, h2, e⟩ | ⟨h1, h2, e⟩ | ⟨h1, h2, e⟩⟩ := enc_forms r h
  all_goals (rw [e, List.getD_cons_zero, u8n _ (by omega)]; omega)
theorem tail_cont (r : Int) (h : Lib.validRune r = true) (i : Nat) (h0 : 1 ≤ i) (hi : i < (encodeRune r).length) : ((encodeRune r).getD i 0).toNat / 64 = 2 := by
  obtain ⟨n, rfl, ⟨h1, e⟩ | ⟨h1, h2, e⟩ | ⟨h1, h2, e⟩ | ⟨h1, h2, e⟩⟩ := enc_forms r h
  all_goals (rw [e] at hi ⊢; simp only [List.length_cons, List.length_nil] at hi)
  · omega
  · obtain rfl : i = 1 := by omega
    simp only [List.getD_cons_zero, List.getD_cons_succ]; rw [u8n _ (by omega)]; omega
  · have : i = 1 ∨ i = 2 := by omega
    rcases this with rfl | rfl <;> (simp only [List.getD_cons_zero, List.getD_cons_succ]; rw [u8n _ (by omega)]; omega)
  · have : i = 1 ∨ i = 2 ∨ i = 3 := by omega
    rcases this with rfl | rfl | rfl <;> (simp only [List.getD_cons_zero, List.getD_cons_succ]; rw [u8n _ (by omega)]; omega)

/-- What begins with a rune is its bytes, and some more. -/
theorem good_form (l : List UInt8) (hne : l ≠ []) (hb : badB l = false) : ∃ r t, Lib.validRune r = true ∧ l = encodeRune r ++ t := by
  refine ⟨(decodeL l).1, l.drop (decodeL l).2, decodeL_rune l, ?_⟩
  rw [encode_decode l hne (by unfold badB at hb; simpa using hb), List.take_append_drop]
theorem not_bad_enc (r : Int) (t : List UInt8) (h : Lib.validRune r = true) : badB (encodeRune r ++ t) = false := by
  unfold badB; rw [decode_encode r t h]
  simp only [decide_eq_false_iff_not]
  rintro ⟨a, b⟩
  have h0 := valid_nonneg h
  exact encodeRune_len_valid r h b (by omega)
theorem valid_head (b : List UInt8) (hne : b ≠ []) (hv : validD b = true) : (b.getD 0 0).toNat / 64 ≠ 2 := by
  have hb : badB b = false := by
    cases h : badB b with
    | false => rfl
    | true => rw [valid_step b hne, h] at hv; simp at hv
  obtain ⟨r, t, hr, rfl⟩ := good_form b hne hb
  have h1 := head_lead r hr
  have h2 := encodeRune_len r
  rw [List.getD_eq_getElem?_getD, List.getElem?_append_left (by omega), ← List.getD_eq_getElem?_getD]
  exact h1
/-- Bytes that are no text, with a text behind them, are none. -/
theorem join_bad (a b : List UInt8) (ha : validD a = false) (hb : validD b = true) : validD (a ++ b) = false := by
  revert ha
  refine byRunes (C := fun a => validD a = false → validD (a ++ b) = false) ?_ ?_ ?_ a
  · intro h; rw [validD_nil] at h; cases h
  · intro a hne hbad _
    have hne2 : a ++ b ≠ [] := by simp [hne]
    rw [valid_step _ hne2]
    cases h : badB (a ++ b) with
    | true => rfl
    | false =>
      exfalso
      obtain ⟨r, t, hr, e⟩ := good_form _ hne2 h
      have hl := encodeRune_len r
      by_cases hk : (encodeRune r).length ≤ a.length
      · have : a = encodeRune r ++ a.drop (encodeRune r).length := by
          have h1 := congrArg (List.take (encodeRune r).length) e
          rw [List.take_append_of_le_length hk, List.take_left] at h1
          have h2 := List.take_append_drop (encodeRune r).length a
          rw [h1] at h2; exact h2.symm
        rw [this, not_bad_enc r _ hr] at hbad
        cases hbad
      · have hal : 0 < a.length := List.length_pos_iff.2 hne
        have hbne : b ≠ [] := by
          rintro rfl
          have := congrArg List.length e
          simp at this; omega
        have h1 := tail_cont r hr a.length hal (by omega)
        have h2 := valid_head b hbne hb
        have h3 : (a ++ b).getD a.length 0 = b.getD 0 0 := by
          rw [List.getD_eq_getElem?_getD, List.getElem?_append_right (Nat.le_refl _), Nat.sub_self, ← List.getD_eq_getElem?_getD]
        have h4 : (a ++ b).getD a.length 0 = (encodeRune r).getD a.length 0 := by
          rw [e, List.getD_eq_getElem?_getD, List.getElem?_append_left (by omega), ← List.getD_eq_getElem?_getD]
        rw [← h4, h3] at h1
        exact h2 h1
  · intro a hne hgood ih hv
    obtain ⟨r, t, hr, rfl⟩ := good_form a hne hgood
    rw [decode_encode r t hr] at ih
    simp only [List.drop_left] at ih
    rw [List.append_assoc, (items_enc r (t ++ b) hr).2]
    rw [(items_enc r t hr).2] at hv
    exact ih hv

theorem cmpB_same (p s t : List UInt8) : compareBytes (p ++ s) (p ++ t) = compareBytes s t := by
  induction p with
  | nil => rfl
  | cons a p ih => simp [compareBytes, ih]
theorem cmpB_lt (a b : UInt8) (s t : List UInt8) (h : a < b) : compareBytes (a :: s) (b :: t) = -1 := by simp [compareBytes, h]
theorem cmpB_eq (a b : UInt8) (s t : List UInt8) (h : a = b) : compareBytes (a :: s) (b :: t) = compareBytes s t := by subst h; simp [compareBytes]
theorem u8lt (m n : Nat) (h : m < n) (hn : n < 256) : m.toUInt8 < n.toUInt8 := by
  rw [UInt8.lt_iff_toNat_lt, u8n m (by omega), u8n n hn]; exact h
theorem enc_lt (r q : Int) (hr : Lib.validRune r = true) (hq : Lib.validRune q = true) (h : r < q) (s t : List UInt8) : compareBytes (encodeRune r ++ s) (encodeRune q ++ t) = -1 := by
  obtain ⟨n, rfl, ⟨a1, e⟩ | ⟨a1, a2, e⟩ | ⟨a1, a2, e⟩ | ⟨a1, a2, e⟩⟩ := enc_forms r hr
  all_goals (obtain ⟨m, rfl, ⟨b1, e'⟩ | ⟨b1, b2, e'⟩ | ⟨b1, b2, e'⟩ | ⟨b1, b2, e'⟩⟩ := enc_forms q hq)
  all_goals (rw [e, e']; simp only [List.cons_append, List.nil_append])
  all_goals first
    | (exact cmpB_lt _ _ _ _ (u8lt _ _ (by omega) (by omega)))
    | (exfalso; omega)
    | skip
  · by_cases h1 : n / 64 < m / 64
    · exact cmpB_lt _ _ _ _ (u8lt _ _ (by omega) (by omega))
    · rw [cmpB_eq _ _ _ _ (by rw [show n / 64 = m / 64 by omega])]
      exact cmpB_lt _ _ _ _ (u8lt _ _ (by omega) (by omega))
  · by_cases h1 : n / 4096 < m / 4096
    · exact cmpB_lt _ _ _ _ (u8lt _ _ (by omega) (by omega))
    · rw [cmpB_eq _ _ _ _ (by rw [show n / 4096 = m / 4096 by omega])]
      by_cases h2 : n / 64 % 64 < m / 64 % 64
      · exact cmpB_lt _ _ _ _ (u8lt _ _ (by omega) (by omega))
      · rw [cmpB_eq _ _ _ _ (by rw [show n / 64 % 64 = m / 64 % 64 by omega])]
        exact cmpB_lt _ _ _ _ (u8lt _ _ (by omega) (by omega))
  · by_cases h1 : n / 262144 < m / 262144
    · exact cmpB_lt _ _ _ _ (u8lt _ _ (by omega) (by omega))
    · rw [cmpB_eq _ _ _ _ (by rw [show n / 262144 = m / 262144 by omega])]
      by_cases h2 : n / 4096 % 64 < m / 4096 % 64
      · exact cmpB_lt _ _ _ _ (u8lt _ _ (by omega) (by omega))
      · rw [cmpB_eq _ _ _ _ (by rw [show n / 4096 % 64 = m / 4096 % 64 by omega])]
        by_cases h3 : n / 64 % 64 < m / 64 % 64
        · exact cmpB_lt _ _ _ _ (u8lt _ _ (by omega) (by omega))
        · rw [cmpB_eq _ _ _ _ (by rw [show n / 64 % 64 = m / 64 % 64 by omega])]
          exact cmpB_lt _ _ _ _ (u8lt _ _ (by omega) (by omega))
theorem cmpB_flip (a b : List UInt8) : compareBytes a b = - compareBytes b a := by
  induction a generalizing b with
  | nil => cases b <;> simp [compareBytes]
  | cons x a ih =>
    cases b with
    | nil => simp [compareBytes]
    | cons y b =>
      simp only [compareBytes]
      by_cases h1 : x < y
      · have h2 : ¬ y < x := by rw [UInt8.lt_iff_toNat_lt] at *; omega
        simp [h1, h2]
      · by_cases h2 : y < x
        · simp [h1, h2]
        · simp [h1, h2, ih b]
theorem cmpL_flip (a b : List Int) : cmpL a b = - cmpL b a := by
  induction a generalizing b with
  | nil => cases b <;> simp [cmpL]
  | cons x a ih =>
    cases b with
    | nil => simp [cmpL]
    | cons y b =>
      simp only [cmpL]
      by_cases h1 : x < y
      · have h2 : ¬ y < x := by omega
        simp [h1, h2]
      · by_cases h2 : y < x
        · simp [h1, h2]
        · simp [h1, h2, ih b]
/-- Texts compare as their bytes do. -/
theorem cmp_enc (x y : List Int) (hx : ∀ r ∈ x, Lib.validRune r = true) (hy : ∀ r ∈ y, Lib.validRune r = true) : compareBytes (encL x) (encL y) = cmpL x y := by
  induction x generalizing y with
  | nil =>
    cases y with
    | nil => rfl
    | cons q y =>
      rw [encL_cons]
      have := encodeRune_len q
      cases h : encodeRune q with
      | nil => rw [h] at this; simp at this
      | cons _ _ => rfl
  | cons r x ih =>
    cases y with
    | nil =>
      rw [encL_cons]
      have := encodeRune_len r
      cases h : encodeRune r with
      | nil => rw [h] at this; simp at this
      | cons _ _ => rfl
    | cons q y =>
      rw [encL_cons, encL_cons]
      simp only [cmpL]
      have vr := hx r (by simp)
      have vq := hy q (by simp)
      by_cases h1 : r < q
      · rw [if_pos h1]; exact enc_lt r q vr vq h1 _ _
      · rw [if_neg h1]
        by_cases h2 : q < r
        · rw [if_pos h2, cmpB_flip, enc_lt q r vq vr h2]; rfl
        · rw [if_neg h2]
          obtain rfl : r = q := by omega
          rw [cmpB_same]
          exact ih y (fun z hz => hx z (by simp [hz])) (fun z hz => hy z (by simp [hz]))
theorem cmp_take (x : List Int) (k : Nat) (h : k ≤ x.length) : cmpL (x.take k) x = if k = x.length then 0 else -1 := by
  induction x generalizing k with
  | nil => simp at h; subst h; rfl
  | cons a x ih =>
    cases k with
    | zero => simp [cmpL]
    | succ k =>
      simp only [List.take_succ_cons, cmpL]
      simp only [List.length_cons] at h
      rw [if_neg (by omega), if_neg (by omega), ih k (by omega)]
      simp
end Go.Proofs.YtbbkkoeipkigdaaDoor

