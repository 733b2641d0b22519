/- Texts that several proofs of this seat share, one behind the other: KSpell ZAlike UWay USeq UWords UText ZMark. -/
import Derived.Test.YtljaibhhkjapmaaDoorPk2
import Derived.Test.YtljaibhhkjapmaaDoorPk7
import Derived.Test.YtljaibhhkjapmaaDoorPk9
import Derived.Test.YtljaibhhkjapmaaDoorPk3
import Derived.Deep.RegionHeld3
import Derived.RangeFuncNested
import Derived.RangeFuncLeaves
import Derived.Test.YtljaibhhkjapmaaDoorPk6
import Derived.Test.YtljaibhhkjapmaaDoorPk8
/- Layer 10, plain: the word at a place is spelled edge by edge; a word's place is summed up edge by edge. -/
namespace Go.Proofs.YtljaibhhkjapmaaDoor
set_option linter.unusedVariables false
set_option linter.unusedSimpArgs false

theorem spell_step {W : Rst} (hW : W.Pairwise (· < ·)) {p : List Int} {i : Nat} {r : Int} {t : List Int} (hx : (behP W p)[i]? = some (r :: t)) (Q : List Rst) :
    ∃ k, (edE Q (behP W p))[k]? = some (r, Q.idxOf (behR (behP W p) r), ahdR (behP W p) r) ∧ (∀ (j : Nat) (z : Edg), j ≤ k → (edE Q (behP W p))[j]? = some z → z.2.2 ≤ i) ∧ (∀ (j : Nat) (z : Edg), k < j → (edE Q (behP W p))[j]? = some z → i < z.2.2) ∧
      ahdR (behP W p) r ≤ i ∧ (behP W (p ++ [r]))[i - ahdR (behP W p) r]? = some t ∧ r ∈ hdsR (behP W p) := by
  obtain ⟨x, hX⟩ : ∃ z, behP W p = z := ⟨_, rfl⟩
  have hxr : x.Pairwise (· < ·) := by rw [← hX]; exact behP_rising hW
  rw [behP_snoc]
  rw [hX] at hx ⊢
  obtain ⟨h1, h2, h3⟩ := at_head hxr i r t hx
  have hr : r ∈ hdsR x := mem_hdsR.2 ⟨t, List.mem_of_getElem? hx⟩
  obtain ⟨k, hk⟩ := List.mem_iff_getElem?.1 hr
  have hri := hdsR_rising hxr
  obtain ⟨hkl, hke⟩ := List.getElem?_eq_some_iff.1 hk
  refine ⟨k, by rw [edE_key, hk]; rfl, fun j z hj hz => ?_, fun j z hj hz => ?_, h1, h2, hr⟩
  · rw [edE_key] at hz
    obtain ⟨a, ha, rfl⟩ := Option.map_eq_some_iff.1 hz
    obtain ⟨hjl, hje⟩ := List.getElem?_eq_some_iff.1 ha
    show ahdR x a ≤ i
    rcases Nat.lt_or_ge j k with hlt | hge
    · have : a < r := by rw [← hje, ← hke]; exact List.pairwise_iff_getElem.1 hri j k hjl hkl hlt
      have := ahdR_rise hxr (List.mem_of_getElem? ha) this
      omega
    · obtain rfl : j = k := by omega
      have : a = r := by rw [← hje, ← hke]
      rw [this]; exact h1
  · rw [edE_key] at hz
    obtain ⟨a, ha, rfl⟩ := Option.map_eq_some_iff.1 hz
    obtain ⟨hjl, hje⟩ := List.getElem?_eq_some_iff.1 ha
    exact h3 a (by rw [← hje, ← hke]; exact List.pairwise_iff_getElem.1 hri k j hkl hjl hj)
/-- Where spelling ends. -/
theorem spell_end {W : Rst} (hW : W.Pairwise (· < ·)) {p : List Int} {i : Nat} {u : List Int} (hx : (behP W p)[i]? = some u) : (i = 0 ∧ [] ∈ behP W p) ↔ u = [] := by
  have hxr : (behP W p).Pairwise (· < ·) := behP_rising hW
  constructor
  · rintro ⟨rfl, h⟩
    have := nil_zero hxr h
    rw [hx] at this
    exact Option.some.inj this
  · rintro rfl
    exact ⟨nil_first hxr hx, List.mem_of_getElem? hx⟩
/-- The state that is met behind some runes, by its number. -/
theorem staQ_at {W : Rst} {p : List Int} (hp : behP W p ≠ []) : (staQ W)[(staQ W).idxOf (behP W p)]? = some (behP W p) := getElem?_idxOf' (staQ_beh p hp)
theorem place_step {W : Rst} {p : List Int} {r : Int} : (r ∈ hdsR (behP W p) ↔ behP W (p ++ [r]) ≠ []) := hdsR_behP
end Go.Proofs.YtljaibhhkjapmaaDoor

/- builder.alike: how many runes a word begins with that the last one begins with, too. -/
namespace Go.Proofs.YtljaibhhkjapmaaDoor
open Go.RowKit Go.Shelf
attribute [local go_sem] Oper.semAt_some
set_option linter.unusedSimpArgs false
set_option linter.unusedVariables false

theorem alk_from {x y : List Int} : ∀ (k : Nat), x.take k = y.take k → k ≤ x.length → k ≤ y.length → (∀ a b, x[k]? = some a → y[k]? = some b → a ≠ b) → alk x y = k := by
  intro k
  induction k generalizing x y with
  | zero =>
    intro _ _ _ h
    cases x with
    | nil => rfl
    | cons a x =>
      cases y with
      | nil => rfl
      | cons b y => simp only [alk]; rw [if_neg (h a b rfl rfl)]
  | succ k ih =>
    intro h h1 h2 h3
    cases x with
    | nil => simp at h1
    | cons a x =>
      cases y with
      | nil => simp at h2
      | cons b y =>
        simp only [List.take_succ_cons, List.cons.injEq] at h
        simp only [alk]
        rw [if_pos h.1, ih h.2 (by simpa using h1) (by simpa using h2) (fun a b ha hb => h3 a b (by simpa using ha) (by simpa using hb))]
theorem z_run_cell {w : World} {A : Option Addr} {n c : Nat} {l : List Int} (h : Runs w (.slice A n c) l) (hn : l.length = n) {j : Nat} {a : Int} (hj : l[j]? = some a) : ∃ b o, A = some ⟨b, o, none⟩ ∧ b < w.heap.size ∧ w.cell? ⟨b, o + j, none⟩ = some (.int .i32 a) := by
  obtain ⟨A', c', e, hc, hm, hx⟩ := h
  have hjl := (List.getElem?_eq_some_iff.1 hj).1
  obtain ⟨b, o, e2, hlt, hcell⟩ := hx (by omega)
  rw [hn] at e
  obtain ⟨rfl, _, _⟩ := Value.slice.inj e
  refine ⟨b, o, e2, hlt, ?_⟩
  rw [hcell j hjl, List.getD_eq_getElem?_getD, hj]
  rfl

set_option maxRecDepth 100000 in
set_option maxHeartbeats 8000000 in
theorem alike_any (q m n0 k : Nat) (D : DataW Unit) (P : List (Nat × Int)) (s : Nat × Int) (F : List Fz) (vw vf : Value) (v : Value) (l : List Int) (w : World) (hB : Bld w q m n0 k D (P ++ [s]) F vw vf) (hv : Runs w v l) (hl : l.length ≤ 2000000) (hP : P.length ≤ 5000000) :
    Calls Tryd.prog 98 #[.pointer (some ⟨q, 0, none⟩), v] w fun e w' => e = .returned (.int .i64 (alk l (P.map (·.2)) : Nat)) ∧ Below w.heap.size w w' := by
  have hfin := fun k h1 h2 h3 h4 => alk_from (x := l) (y := P.map (·.2)) k h1 h2 h3 h4
  obtain ⟨g, cap, evw, hg1, hg2, hg3, hg4, _⟩ := z_own_form hB.way (by simp)
  subst evw
  obtain ⟨np, hnp⟩ : ∃ z, P.length = z := ⟨_, rfl⟩
  have hB0 := hB
  have hlen : (P ++ [s]).length = np + 1 := by simp [hnp]
  rw [hlen] at hB hg3
  have hway := hB0.way
  unfold OpOwn at hway
  rw [hlen] at hway
  obtain ⟨A, c, ev⟩ : ∃ A c, v = .slice A l.length c := by obtain ⟨A, c, e, _⟩ := hv; exact ⟨A, c, e⟩
  subst ev
  obtain ⟨n, hn⟩ : ∃ z, l.length = z := ⟨_, rfl⟩
  rw [hn] at hv hl
  obtain ⟨r, hr⟩ : ∃ z, alk l (P.map (·.2)) = z := ⟨_, rfl⟩
  rw [hr]
  rw [hn]
  have hwp : IntKind.i64.wrap (np : Int) = (np : Int) := by rw [IntKind.wrap_i64]; omega
  have HB := Lib.hid hB; have HV := Lib.hid hv; have HW := Lib.hid hway; have HF := Lib.hid hfin; have HN := Lib.hid hn; have HNP := Lib.hid hnp; have HR := Lib.hid hr
  clear hB hB0 hv hway hfin hn hnp hr hlen
  go_enter Tryd.func98, Tryd.ntmps98
  go_wp2
  go_loopw [5] (fun s5 wr => ∃ j : Nat, s5 = .int .i64 j ∧ j ≤ n ∧ j ≤ np ∧ Hid (l.take j = (P.map (·.2)).take j) ∧ Hid (Below w.heap.size w wr)) (fun s5 _ => n - (RowKit.intOf s5).toNat)
  case atStart => exact ⟨0, rfl, Nat.zero_le _, Nat.zero_le _, Lib.hid (by simp), Lib.hid (Below.refl _ _)⟩
  case round =>
    obtain ⟨j, rfl, hjn, hjp, HT, BW⟩ := hrel
    have c0 := (HB.out.below BW.out).cells.1
    by_cases h1 : j < n
    · have i1 : (j : Int) < (n : Int) := by omega
      have i1d : decide ((j : Int) < (n : Int)) = true := by simpa using i1
      by_cases h2 : j < np
      · have i2 : (j : Int) < (np : Int) := by omega
        have i3 : (j : Int) < (np : Int) + 1 := by omega
        obtain ⟨a, ha⟩ : ∃ a, l[j]? = some a := ⟨_, List.getElem?_eq_getElem (by rw [HN.out]; exact h1)⟩
        obtain ⟨⟨so, b⟩, hb⟩ : ∃ p, P[j]? = some p := ⟨_, List.getElem?_eq_getElem (by rw [HNP.out]; exact h2)⟩
        obtain ⟨vb, vo, rfl, _, d0⟩ := z_run_cell (HV.out.below BW.out) HN.out ha
        have d1 := z_own_at op_ln (z_own_below HW.out BW.out) (j := j) (i := 1) (x := (so, b)) (u := .int .i32 b) (by rw [List.getElem?_append_left (List.getElem?_eq_some_iff.1 hb).1]; exact hb) rfl
        by_cases e : a = b
        · have he : (a == b) = true := by simpa using e
          have hst : Hid (l.take (j + 1) = (P.map (·.2)).take (j + 1)) := Lib.hid (by
            rw [List.take_add_one, List.take_add_one, HT.out, List.getElem?_map, ha, hb, e]; rfl)
          clear ha hb e
          go_wp2
          go_quiet (fail)
          go_wp2
          exact ⟨⟨j + 1, by go_num, by omega, by omega, hst, Lib.hid (below_draws BW.out _)⟩, by simp [RowKit.intOf]; omega⟩
        · have he : (a == b) = false := by simpa using e
          have hst : Hid (r = j) := Lib.hid (by
            rw [← HR.out]
            refine HF.out j HT.out (by rw [HN.out]; omega) (by rw [List.length_map, HNP.out]; omega) (fun a' b' ha' hb' => ?_)
            rw [List.getElem?_map, hb] at hb'
            rw [ha] at ha'
            have e1 := Option.some.inj ha'
            have e2 := Option.some.inj hb'
            simp only at e2
            rw [← e1, ← e2]
            exact e)
          clear ha hb e
          go_wp2
          go_quiet (fail)
          go_wp2
          go_ret
          exact ⟨by rw [hst.out]; rfl, below_draws BW.out _⟩
      · have i2 : decide ((j : Int) < (np : Int)) = false := by simpa using (show ¬ (j : Int) < (np : Int) by omega)
        have hst : Hid (r = j) := Lib.hid (by
          rw [← HR.out]
          refine HF.out j HT.out (by rw [HN.out]; omega) (by rw [List.length_map, HNP.out]; omega) (fun a' b' ha' hb' => ?_)
          rw [List.getElem?_eq_none (by rw [List.length_map, HNP.out]; omega)] at hb'
          cases hb')
        go_wp2
        go_quiet (fail)
        go_wp2
        go_ret
        exact ⟨by rw [hst.out]; rfl, below_draws BW.out _⟩
    · have i1 : decide ((j : Int) < (n : Int)) = false := by simpa using (show ¬ (j : Int) < (n : Int) by omega)
      have hst : Hid (r = j) := Lib.hid (by
        rw [← HR.out]
        refine HF.out j HT.out (by rw [HN.out]; omega) (by rw [List.length_map, HNP.out]; omega) (fun a' b' ha' hb' => ?_)
        rw [List.getElem?_eq_none (by rw [HN.out]; omega)] at ha'
        cases ha')
      go_wp2
      go_quiet (fail)
      go_wp2
      go_ret
      exact ⟨by rw [hst.out]; rfl, below_draws BW.out _⟩
end Go.Proofs.YtljaibhhkjapmaaDoor

/- walk.read: the runes of a text, or why not. walk.way: how many runes are gone by, and where they lead. -/
namespace Go.Proofs.YtljaibhhkjapmaaDoor
open Go.RowKit Go.Shelf
attribute [local go_sem] Oper.semAt_some
set_option linter.unusedSimpArgs false
set_option linter.unusedVariables false

/-- Why no way can be gone by a text; its runes. -/
def uE (s : List UInt8) : Int := if Lib.validD s then (if 64 < (items s).length then 5 else 0) else 3
def uS (s : List UInt8) : List Int := if uE s = 0 then items s else []
theorem uE_ok {s : List UInt8} (h : uE s = 0) : Lib.validD s = true ∧ (items s).length ≤ 64 ∧ uS s = items s := by
  have h0 := h
  unfold uE at h
  cases hv : Lib.validD s with
  | false => rw [hv] at h; cases h
  | true =>
    rw [hv] at h
    by_cases hl : 64 < (items s).length
    · simp [hl] at h
    · exact ⟨rfl, by omega, by rw [uS, if_pos h0]⟩
theorem uread_nil (s : ByteArray) (w : World) : Calls Tryd.prog 53 #[.pointer none, .string s] w fun e w' => e = .returned (.tuple #[.slice none 0 0, .int .i64 1]) ∧ w' = w := by
  go_enter Tryd.func53, Tryd.ntmps53
  go_wp2
  go_ret2
  exact ⟨rfl, rfl⟩
set_option maxRecDepth 100000 in
set_option maxHeartbeats 4000000 in
theorem uread_any (p : Nat) (s : ByteArray) (w : World) (hO : Okw w) (hs : s.size * 4 ≤ 140737488355328) :
    Calls Tryd.prog 53 #[.pointer (some ⟨p, 0, none⟩), .string s] w fun e w' => ∃ A c, e = .returned (.tuple #[.slice A (uS s.data.toList).length c, .int .i64 (uE s.data.toList)]) ∧ Runs w' (.slice A (uS s.data.toList).length c) (uS s.data.toList) ∧ Below w.heap.size w w' := by
  have cd := decode_runs s w hs hO.1 hO.2
  have CD := Lib.hid cd; clear cd
  have key : (decErr s.data.toList ≠ 0 ∧ uE s.data.toList = 3 ∧ decErr s.data.toList = 3 ∧ uS s.data.toList = []) ∨ (decErr s.data.toList = 0 ∧ 64 < (decRunes s.data.toList).length ∧ uE s.data.toList = 5 ∧ uS s.data.toList = []) ∨ (decErr s.data.toList = 0 ∧ ¬ 64 < (decRunes s.data.toList).length ∧ uE s.data.toList = 0 ∧ uS s.data.toList = decRunes s.data.toList) := by
    cases hv : Lib.validD s.data.toList with
    | false => left; simp [decErr, uE, uS, hv]
    | true =>
      right
      by_cases hl : 64 < (items s.data.toList).length
      · left; simp [decErr, uE, uS, decRunes, hv, hl]
      · right; simp [decErr, uE, uS, decRunes, hv, hl]
  obtain ⟨x, hx⟩ : ∃ z, uS s.data.toList = z := ⟨_, rfl⟩
  obtain ⟨er, her⟩ : ∃ z, uE s.data.toList = z := ⟨_, rfl⟩
  obtain ⟨y, hy⟩ : ∃ z, decRunes s.data.toList = z := ⟨_, rfl⟩
  obtain ⟨de, hde⟩ : ∃ z, decErr s.data.toList = z := ⟨_, rfl⟩
  rw [hx, her, hy, hde] at key
  rw [hx, her]
  rw [hy, hde] at CD
  clear hx her hy hde
  obtain ⟨n, hn⟩ : ∃ z, y.length = z := ⟨_, rfl⟩
  rw [hn] at CD key
  have HN := Lib.hid hn
  clear hn
  rcases key with ⟨h1, rfl, rfl, rfl⟩ | ⟨rfl, h1, rfl, rfl⟩ | ⟨rfl, h1, rfl, rfl⟩
  · clear h1
    go_enter Tryd.func53, Tryd.ntmps53
    go_wp2_with fail
    refine CD.out.mono ?_
    rintro e w1 ⟨A, c, rfl, hr, hb⟩
    have HB := Lib.hid hb; clear hb hr
    go_wp2
    go_ret2
    exact ⟨none, 0, rfl, Runs.nil_ _, HB.out⟩
  · have h2 : (64 : Int) < (n : Int) := by omega
    go_enter Tryd.func53, Tryd.ntmps53
    go_wp2_with fail
    refine CD.out.mono ?_
    rintro e w1 ⟨A, c, rfl, hr, hb⟩
    have HB := Lib.hid hb; clear hb hr
    go_wp2
    go_ret2
    exact ⟨none, 0, rfl, Runs.nil_ _, HB.out⟩
  · have h2 : ¬ (64 : Int) < (n : Int) := by omega
    go_enter Tryd.func53, Tryd.ntmps53
    go_wp2_with fail
    refine CD.out.mono ?_
    rintro e w1 ⟨A, c, rfl, hr, hb⟩
    have HB := Lib.hid hb; have HR := Lib.hid hr; clear hb hr
    go_wp2
    go_ret2
    exact ⟨A, c, by rw [HN.out]; rfl, by rw [HN.out]; exact HR.out, HB.out⟩

/-- How many runes may be gone by. -/
abbrev WyI (Q : List Rst) (W : Rst) (l : List Int) := { i : Nat // i ≤ l.length ∧ Q[Q.idxOf (behP W (l.take i))]? = some (behP W (l.take i)) }
def wyL {Q : List Rst} {W : Rst} {l : List Int} (ys : List (WyI Q W l)) : List Nat := ys.map (·.val)
theorem wyL_snoc {Q : List Rst} {W : Rst} {l : List Int} (ys : List (WyI Q W l)) (x : WyI Q W l) : wyL (ys ++ [x]) = wyL ys ++ [x.val] := by simp [wyL]
/-- What a way hands on: how many runes are gone by, and the state that they lead to. -/
def wayEnc (Q : List Rst) (W : Rst) (l : List Int) (x : WyI Q W l) : Array Value := #[.int .i64 (x.val : Int), .int .i64 (Q.idxOf (behP W (l.take x.val)) : Int)]
theorem way_fn (d : Option Addr) (A : Option Addr) (n c : Nat) (w : World) : Calls Tryd.prog 54 #[.pointer d, .slice A n c] w fun e w' => e = .returned (.func (.func 83) #[] #[.pointer (some ⟨w.heap.size + 1, 0, none⟩), .pointer (some ⟨w.heap.size, 0, none⟩)]) ∧ w' = (w.alloc (.cells #[.pointer d] 25)).alloc (.cells #[.slice A n c] 84) := by
  go_enter Tryd.func54, Tryd.ntmps54
  go_wp2
  go_ret
  exact ⟨rfl, rfl⟩
/-- Where a way stands: the state, by its number and rests. -/
structure WayP (Q : List Rst) (W : Rst) (l : List Int) (i st : Nat) : Prop where
  q : Q[st]? = some (behP W (l.take i))
  at_ : st = Q.idxOf (behP W (l.take i))
  on : i = 0 ∨ behP W (l.take i) ≠ []
theorem way_next {Q : List Rst} {W : Rst} {l : List Int} (hQ : staQ W = Q) {i st : Nat} (h : WayP Q W l i st) {r : Int} (hr : l[i]? = some r) : (r ∈ hdsR (behP W (l.take i)) → WayP Q W l (i + 1) (Q.idxOf (behR (behP W (l.take i)) r))) ∧ (r ∉ hdsR (behP W (l.take i)) → wayG W l = i) := by
  have htk : l.take (i + 1) = l.take i ++ [r] := by rw [List.take_add_one, hr]; rfl
  have hlt := (List.getElem?_eq_some_iff.1 hr).1
  refine ⟨fun hm => ?_, fun hm => ?_⟩
  · have hne : behP W (l.take (i + 1)) ≠ [] := by rw [htk]; exact place_step.1 hm
    have e : behR (behP W (l.take i)) r = behP W (l.take (i + 1)) := by rw [htk, behP_snoc]
    rw [e]
    refine ⟨?_, rfl, .inr hne⟩
    have := staQ_at hne
    rwa [hQ] at this
  · refine wayG_is (Nat.le_of_lt hlt) h.on (.inr ?_)
    rw [htk]
    exact Classical.byContradiction fun hne => hm (place_step.2 hne)
set_option maxRecDepth 100000 in
set_option maxHeartbeats 8000000 in
theorem way_in (n : Nat) (hn : 1 ≤ n) (lp Bl Bd n₀ d N : Nat) (A : Option Addr) (c : Nat) (l : List Int) (hN : l.length = N) (hL : N ≤ 2000000) (L : List Wrd) (W0 : Rst) (hW : W0.Pairwise (· < ·)) (Q : List Rst) (hQ : staQ W0 = Q) (hk : DgOk Q L) (w0 : World) (hw0 : w0.heap.size = n₀) (hx : DgAt w0 d Q L) (hv : Runs w0 (.slice A N c) l) (J Jx : List (WyI Q W0 l) → World → Prop)
    (W : World) (hJ : ∀ pre A B, J pre A → A.grownBy B none → J pre B)
    (hY : ∀ pre x W1, J pre W1 → pre.length < wayG W0 l + 1 → YieldAt Fence.wide (n - 1) Tryd.prog lp (wayEnc Q W0 l x) W1 fun e W' =>
      (e = .returned (.bool true) ∧ J (pre ++ [x]) W' ∧ Keep2 n₀ Bl Bd W1 W') ∨ (e = .returned (.bool false) ∧ Jx (pre ++ [x]) W'))
    (hn0 : n₀ ≤ W.heap.size) (hW0 : Below n₀ w0 W) (hBl : Bl < W.heap.size) (hBd : Bd < W.heap.size)
    (hcl : W.cell? ⟨Bl, 0, none⟩ = some (.slice A N c)) (hcd : W.cell? ⟨Bd, 0, none⟩ = some (.pointer (some ⟨d, 0, none⟩))) (h0 : J [] W) :
    CallsIn Fence.wide n Tryd.prog 83 #[.func (.yield lp) #[] #[], .pointer (some ⟨Bl, 0, none⟩), .pointer (some ⟨Bd, 0, none⟩)] W fun e W' => (∃ v, e = .returned v) ∧
      ((∃ ys, wyL ys = List.range (wayG W0 l + 1) ∧ J ys W') ∨ (∃ pre, wyL pre <+: List.range (wayG W0 l + 1) ∧ Jx pre W')) := by
  have hg1 := wayG_le l W0
  have hgi := fun i (h1 : i ≤ l.length) h2 h3 => wayG_is (W := W0) (l := l) (n := i) h1 h2 h3
  have hge := fun i (h1 : i ≤ l.length) h2 => wayG_ge l W0 i h1 h2
  have hst := fun i st (h : WayP Q W0 l i st) r hr => way_next hQ h (r := r) hr
  have hri : ∀ i, (behP W0 (l.take i)).Pairwise (· < ·) := fun i => behP_rising hW
  have h00 : WayP Q W0 l 0 0 := by
    have hQ0 : Q[0]? = some W0 := by rw [← hQ]; exact staQ_zero W0
    refine ⟨hQ0, ?_, .inl rfl⟩
    show 0 = Q.idxOf W0
    cases hq : Q with
    | nil => rw [hq] at hQ0; cases hQ0
    | cons a q =>
      rw [hq] at hQ0
      obtain rfl : a = W0 := by simpa using hQ0
      simp
  obtain ⟨g, hg⟩ : ∃ z, wayG W0 l = z := ⟨_, rfl⟩
  simp only [hg] at hg1 hgi hge hst hY ⊢
  rw [hN] at hg1
  have HGI := Lib.hid hgi; have HGE := Lib.hid hge; have HST := Lib.hid hst; have HRI := Lib.hid hri; have H00 := Lib.hid h00
  have HN := Lib.hid hN; have HX := Lib.hid hx; have HV := Lib.hid hv; have HW0 := Lib.hid hw0; have HK := Lib.hid hk; have HJ := Lib.hid hJ; have HY := Lib.hid hY
  clear hN hx hv hw0 hk hQ hW hJ hY hg hgi hge hst hri h00
  refine callsIn_of_wp Tryd.func83 rfl trivial ?_ rfl
  simp only [Tryd.ntmps83, List.size_toArray, List.length_cons, List.length_nil, Nat.reduceAdd, Nat.reduceSub, Array.replicate_succ, Array.replicate_zero, List.push_toArray, List.append_toArray, List.nil_append, List.cons_append]
  refine wpIn_wide.2 (wp_scope_straight ((wpIn_wide (n := n)).1 ?_))
  gi_wp2_with (refine wpIn_label ?_)
  gi_loopw [4, 5] (fun s4 s5 wr => ∃ (i st : Nat) (pre : List (WyI Q W0 l)), s4 = .int .i64 (st : Int) ∧ s5 = .int .i64 (i : Int) ∧ i ≤ g ∧ i ≤ N ∧ pre.length = i ∧ Hid (wyL pre = List.range i) ∧ Hid (WayP Q W0 l i st) ∧ Hid (J pre wr) ∧ Hid (Keep2 n₀ Bl Bd W wr))
    (fun s4 s5 _ => N - (intOf s5).toNat)
  case atStart => exact ⟨0, 0, [], rfl, rfl, Nat.zero_le _, Nat.zero_le _, rfl, Lib.hid (by simp [wyL]), H00, Lib.hid h0, Lib.hid (Keep2.refl _ _ _ _)⟩
  case round =>
    clear h0
    obtain ⟨i, st, pre, rfl, rfl, hig, hiN, hpk, HP, HS, HJs, HKB⟩ := hrel
    obtain ⟨xi, hxi⟩ : ∃ x : WyI Q W0 l, x.val = i := ⟨⟨i, by rw [HN.out]; exact hiN, by rw [← HS.out.at_]; exact HS.out.q⟩, rfl⟩
    have hY1 := HY.out pre xi wr HJs.out (by omega)
    unfold wayEnc at hY1
    rw [hxi, ← HS.out.at_] at hY1
    obtain ⟨fn, tmps, assign, body, hy, hR⟩ := hY1
    have HR := Lib.hid hR
    have hpr : Hid (wyL (pre ++ [xi]) = List.range (i + 1)) := Lib.hid (by rw [wyL_snoc, HP.out, hxi, List.range_succ])
    have HPX := Lib.hid (show List.range (i + 1) <+: List.range (g + 1) from by
      have := List.take_prefix (i + 1) (List.range (g + 1))
      rwa [List.take_range, Nat.min_eq_left (by omega)] at this)
    clear hR hxi
    gi_wp2
    refine HR.out.mono ?_
    rintro e W3 (⟨rfl, hJ3, hk3⟩ | ⟨rfl, hJx3⟩)
    · have hK3 := HKB.out.trans hk3
      have cl := (World.cell?_of_block hK3.2.1).trans hcl
      have cd := (World.cell?_of_block hK3.2.2).trans hcd
      have hB3 : Below w0.heap.size w0 W3 := by rw [HW0.out]; exact hW0.trans hK3.1
      have HJ3 := Lib.hid hJ3; have HK3 := Lib.hid hK3; have HB3 := Lib.hid hB3
      have hsz3 := hK3.1.size
      clear hJ3 hk3 hK3 hB3
      by_cases hk : i < N
      · have k1 : (i : Int) < (N : Int) := by omega
        obtain ⟨r, hr⟩ : ∃ r, l[i]? = some r := ⟨_, List.getElem?_eq_getElem (by rw [HN.out]; exact hk)⟩
        obtain ⟨b9, o9, e9, _, g0⟩ := z_run_cell (HV.out.below HB3.out) HN.out hr
        subst e9
        obtain ⟨s1, s2⟩ := HST.out i st HS.out r hr
        have cn := next_in W3.drew d Q L ((HX.out.below HB3.out).below ((Below.refl _ W3).drew)) HK.out st _ HS.out.q (HRI.out i) r
        obtain ⟨x, hX⟩ : ∃ z, behP W0 (l.take i) = z := ⟨_, rfl⟩
        rw [hX] at cn s1 s2
        have hbe : r ∈ hdsR x → (byE Q x r).2.1 = Q.idxOf (behR x r) := fun hm => by unfold byE; rw [if_pos hm]
        by_cases hm : r ∈ hdsR x
        · rw [if_pos hm, hbe hm] at cn
          have hnx := s1 hm
          obtain ⟨to_, hto⟩ : ∃ z, Q.idxOf (behR x r) = z := ⟨_, rfl⟩
          rw [hto] at cn hnx
          have hgn : i + 1 ≤ g := HGE.out (i + 1) (by rw [HN.out]; omega) (hnx.on.resolve_left (by omega))
          have CN := Lib.hid cn; have HNX := Lib.hid hnx
          clear cn hnx hto hbe hX s1 s2 hr hm
          gi_wp2
          refine wpIn_wide.2 ?_
          go_region_held3 (fun wx => wx.cell? ⟨Bd, 0, none⟩ = some (.pointer (some ⟨d, 0, none⟩)) ∧ wx.cell? ⟨Bl, 0, none⟩ = some (.slice (some ⟨b9, o9, none⟩) N c) ∧ wx.cell? ⟨b9, o9 + i, none⟩ = some (.int .i32 r)) (first | go_keep) (first | (go_at_call 23; refine CN.out.mono ?_; rintro e w4 ⟨rfl, hb4⟩; have hbw : Below W3.heap.size W3 w4 := ((Below.refl _ W3).drew).trans hb4; have q0 := cell_keep hbw cd; have q1 := cell_keep hbw cl; have q2 := cell_keep hbw g0; have HBW := Lib.hid hbw; clear hb4 hbw))
          have HJ4 := Lib.hid (HJ.out _ _ _ HJ3.out (grown_none HBW.out))
          have HK4 := Lib.hid (HK3.out.trans (Keep2.of_below HBW.out (by omega) (by omega) (by omega)))
          gi_wp2
          go_roundw
          case rel => exact ⟨i + 1, to_, pre ++ [xi], rfl, by go_num, hgn, by omega, by simp; omega, hpr, HNX, HJ4, HK4⟩
          case measure => simp [intOf]; omega
        · rw [if_neg hm] at cn
          have hgi := s2 hm
          obtain ⟨to_, hto⟩ : ∃ z, (byE Q x r).2.1 = z := ⟨_, rfl⟩
          rw [hto] at cn
          have CN := Lib.hid cn; have HGI2 := Lib.hid hgi
          clear cn hgi hto hbe hX s1 s2 hr hm
          gi_wp2
          refine wpIn_wide.2 ?_
          go_region_held3 (fun wx => wx.cell? ⟨Bd, 0, none⟩ = some (.pointer (some ⟨d, 0, none⟩)) ∧ wx.cell? ⟨Bl, 0, none⟩ = some (.slice (some ⟨b9, o9, none⟩) N c) ∧ wx.cell? ⟨b9, o9 + i, none⟩ = some (.int .i32 r)) (first | go_keep) (first | (go_at_call 23; refine CN.out.mono ?_; rintro e w4 ⟨rfl, hb4⟩; have hbw : Below W3.heap.size W3 w4 := ((Below.refl _ W3).drew).trans hb4; have q0 := cell_keep hbw cd; have q1 := cell_keep hbw cl; have q2 := cell_keep hbw g0; have HBW := Lib.hid hbw; clear hb4 hbw))
          have HJ4 := Lib.hid (HJ.out _ _ _ HJ3.out (grown_none HBW.out))
          gi_wp2
          rw [Exit.noGoto_normal]
          go_end0
          exact ⟨⟨_, rfl⟩, .inl ⟨pre ++ [xi], by rw [hpr.out, HGI2.out], HJ4.out⟩⟩
      · obtain rfl : i = N := by omega
        have k1 : ¬ (i : Int) < (i : Int) := by omega
        have k2 : decide ((i : Int) < (i : Int)) = false := decide_eq_false k1
        have HGI2 := Lib.hid (HGI.out i (by rw [HN.out]; exact Nat.le_refl _) HS.out.on (.inl HN.out.symm))
        gi_wp2
        rw [Exit.noGoto_normal]
        go_end0
        exact ⟨⟨_, rfl⟩, .inl ⟨pre ++ [xi], by rw [hpr.out, HGI2.out], HJ3.out⟩⟩
    · have HJx3 := Lib.hid hJx3
      gi_wp2
      rw [Exit.noGoto_normal]
      go_end0
      exact ⟨⟨_, rfl⟩, .inr ⟨pre ++ [xi], by rw [hpr.out]; exact HPX.out, HJx3.out⟩⟩
theorem way_stops (n : Nat) (hn : 1 ≤ n) (Bl Bd n₀ d N : Nat) (A : Option Addr) (c : Nat) (l : List Int) (hN : l.length = N) (hL : N ≤ 2000000) (L : List Wrd) (W0 : Rst) (hW : W0.Pairwise (· < ·)) (Q : List Rst) (hQ : staQ W0 = Q) (hk : DgOk Q L) (w0 : World) (hw0 : w0.heap.size = n₀) (hx : DgAt w0 d Q L) (hv : Runs w0 (.slice A N c) l)
    (w : World) (hn0 : n₀ ≤ w.heap.size) (hW0 : Below n₀ w0 w) (hBl : Bl < w.heap.size) (hBd : Bd < w.heap.size)
    (hcl : w.cell? ⟨Bl, 0, none⟩ = some (.slice A N c)) (hcd : w.cell? ⟨Bd, 0, none⟩ = some (.pointer (some ⟨d, 0, none⟩))) :
    SeqStopsK Fence.wide n Tryd.prog 83 #[.pointer (some ⟨Bl, 0, none⟩), .pointer (some ⟨Bd, 0, none⟩)] (wayEnc Q W0 l) (Keep2 n₀ Bl Bd) (fun ys => wyL ys = List.range (wayG W0 l + 1)) (fun pre => wyL pre <+: List.range (wayG W0 l + 1)) (wayG W0 l + 1) w :=
  fun lp J Jx W hW1 hJ _ hY h0 => way_in n hn lp Bl Bd n₀ d N A c l hN hL L W0 hW Q hQ hk w0 hw0 hx hv J Jx W (fun pre A B hj hg => hJ pre A B none hj hg (by simp)) hY (Nat.le_trans hn0 hW1.size) (hW0.trans (hW1.mono hn0)) (Nat.lt_of_lt_of_le hBl hW1.size) (Nat.lt_of_lt_of_le hBd hW1.size) ((hW1.cell (p := ⟨Bl, 0, none⟩) hBl).trans hcl) ((hW1.cell (p := ⟨Bd, 0, none⟩) hBd).trans hcd) h0
end Go.Proofs.YtljaibhhkjapmaaDoor

/- As TSeq, where the iterator has three boxes of its own. -/
namespace Go.Proofs.YtljaibhhkjapmaaDoor
open Go.RowKit Go.Shelf

/-- What such an iterator does between two rounds: whatever lay below B lies as it lay; of what lies from B on it turns its own three boxes and what holds no cells. -/
def Priv3 (B : Nat) (W1 W2 : World) : Prop := Below B W1 W2 ∧ ∀ k o, B + 3 ≤ k → W1.heap[k]? = some o → o.isCells = true → W2.heap[k]? = some o
theorem Priv3.of_below {B : Nat} {W1 W2 : World} (h : Below W1.heap.size W1 W2) (hB : B ≤ W1.heap.size) : Priv3 B W1 W2 :=
  ⟨h.mono hB, fun k _ _ hk _ => (h.block k (Array.getElem?_eq_some_iff.1 hk).1).trans hk⟩
theorem Priv3.of_grown {B : Nat} {W1 W2 : World} {row : Option Nat} (h : W1.grownBy W2 row) (hr : ∀ r, row = some r → B + 3 ≤ r ∧ ∃ o : Obj, W1.heap[r]? = some o ∧ o.isCells = false) (hB : B ≤ W1.heap.size) : Priv3 B W1 W2 :=
  ⟨⟨h.os, h.tape, h.output, h.size, fun k hk => h.block k (Nat.lt_of_lt_of_le hk hB) (fun e => by have := (hr k e.symm).1; omega)⟩,
   fun k _ _ hk ho => (h.block k (Array.getElem?_eq_some_iff.1 hk).1 (fun e => by
     obtain ⟨_, o', ho', hc⟩ := hr k e.symm
     rw [hk] at ho'; cases ho'; rw [ho] at hc; cases hc)).trans hk⟩

/-- The three boxes are kept. -/
def Keeps3 (B : Nat) (W W' : World) : Prop := ∀ k, B ≤ k → k < B + 3 → W'.heap[k]? = W.heap[k]?

/-- The contract of such an iterator, where no round leaves early. -/
def SeqT3 {α : Type} (n : Nat) (P : Program) (g : Nat) (lb : Array Value) (encs : α → Array Value) (Kp : World → World → Prop) (S : List α → Prop) (N : Nat) (w : World) : Prop :=
  ∀ (l : Nat) (J : List α → World → Prop) (W : World), Below w.heap.size w W → (∀ pre W1 W2, J pre W1 → W.heap.size ≤ W1.heap.size → Priv3 W.heap.size W1 W2 → J pre W2) →
    (∀ pre x W1, J pre W1 → pre.length < N → W.heap.size + 3 ≤ W1.heap.size → YieldAt Fence.wide (n - 1) P l (encs x) W1 fun e W' =>
      e = .returned (.bool true) ∧ J (pre ++ [x]) W' ∧ Kp W1 W' ∧ KeepsFrom W.heap.size W1 W' ∧ Keeps3 W.heap.size W1 W') →
    J [] W →
    CallsIn Fence.wide n P g (#[.func (.yield l) #[] #[]] ++ lb) W fun e W' => (∃ v, e = .returned v) ∧ ∃ xs, S xs ∧ J xs W'

/-- How the body of a round is left. -/
def privPost3 {α : Type} (b : Nat) (Kp : World → World → Prop) (I : List α → World → Prop) (xs : List α) (W : World) : Exit → Act → World → Prop
  | .normal, _, W' => KeepsFrom b W W' ∧ Keeps3 (b + 2) W W' ∧ Kp W W' ∧ I xs W'
  | _, _, _ => False

theorem wp_range_priv3 {α : Type} {n : Nat} {P : Program} {g : Operand} {ps : Array Tmp} {assign body : Code} {Q : Exit → Act → World → Prop} {a : Act} {w : World}
    (h1 : 1 ≤ n) {gf : Nat} {lb : Array Value} (hg : a.eval g = .func (.func gf) #[] lb) (eg : ∀ args w, (callFunc gf args).run P w = .ok (.enter gf args) w)
    {encs : α → Array Value} {Kp : World → World → Prop} {S : List α → Prop} {N : Nat} {w0 : World} (hseq : SeqT3 (n - 1) P gf lb encs Kp S N w0)
    (hKt : ∀ {A B C : World}, Kp A B → Kp B C → Kp A C) (hKb : ∀ (W : World) (l : Nat) (o o' : Obj), w.heap.size ≤ l → W.heap[l]? = some o → o.isCells = false → o.isWalk = false → Kp W (W.putObj l o')) (hb0 : Below w0.heap.size w0 w) (hps : ∀ x, (encs x).size = ps.size)
    (I : List α → World → Prop) (hI : OwnFrom w.heap.size I) (hIp : ∀ pre W1 W2, I pre W1 → w.heap.size + 2 ≤ W1.heap.size → Priv3 (w.heap.size + 2) W1 W2 → I pre W2) (h0 : I [] w) (a₁ : α → Act)
    (hassign : ∀ (l : Nat) (x : α) (W : World) (K : Act → World → Prop), K (a₁ x) W →
      assign.wpIn (Fence.wide.inRound l) (n - 1 - 1) P (Exit.then K (fun _ _ _ => False)) { tmps := (ps.zip (encs x)).foldl (fun t (p, v) => t.setIfInBounds p v) a.tmps, defers := [] } W)
    (hbody : ∀ (l : Nat) (pre : List α) (x : α) (W : World), w.heap.size + 5 ≤ W.heap.size → I pre W → pre.length < N → body.wpIn (Fence.wide.inRound l) (n - 1 - 1) P (privPost3 w.heap.size Kp I (pre ++ [x]) W) (a₁ x) W)
    (hdone : ∀ (D : Nat) (xs : List α) (W : World), w.heap.size ≤ D → S xs → I xs W → W.heap[D]? = some (.deferred (some [])) → Q .normal { a with defers := { target := .collected D, args := #[] } :: a.defers } W) :
    (Code.rangeFunc g ps assign body).wpIn Fence.wide n P Q a w := by
  refine wpIn_rangeFunc fun fn hfn => ?_
  obtain ⟨b, hb⟩ : ∃ b, w.heap.size = b := ⟨_, rfl⟩
  obtain ⟨rc, hrc⟩ : ∃ rc : LoopState → Loop, rc = fun st => { state := st, pending := none, fn, tmps := a.tmps, params := ps, assign, body, defers := b } := ⟨_, rfl⟩
  obtain ⟨V, hV⟩ : ∃ V, (w.alloc (.deferred (some []))).alloc (.loop (rc .ready)) = V := ⟨_, rfl⟩
  have hVs : V.heap.size = b + 2 := by rw [← hV]; simp [hb]
  have hL : V.heap[b + 1]? = some (.loop (rc .ready)) := by
    rw [← hV]; have := World.alloc_heap_new (w.alloc (.deferred (some []))) (.loop (rc .ready)); rwa [World.size_alloc, hb] at this
  have hD : V.heap[b]? = some (.deferred (some [])) := by
    rw [← hV, ← hb]; exact (Below.heap_alloc _ _ _ (by simp)).trans (World.alloc_heap_new w _)
  have hI0 : I [] V := by rw [← hV]; exact hI.alloc _ (hI.alloc _ h0)
  have hbV : Below w0.heap.size w0 V := by
    rw [← hV]; exact hb0.trans ((((Below.refl _ w).alloc (Nat.le_refl _) _).alloc (by simp) _).mono hb0.size)
  rw [hb] at hKb hI hIp hbody hdone
  refine ⟨b + 1, [{ target := .collected b, args := #[] }], V, { target := .fn (.func gf) lb, args := #[.func (.yield (b + 1)) #[] #[]] }, V, gf, #[.func (.yield (b + 1)) #[] #[]] ++ lb, V, ?_, ?_, ?_, ?_, fun _ => h1, ?_⟩
  · rw [← hV, hrc, ← hb]; exact run_enterLoop_outer _ _ _ _ _
  · simp only [resolve, hg]; simp [go_sem]
  · intro f' _; trivial
  · simp [invoke, go_sem, eg]
  refine (hseq (b + 1) (fun pre W => I pre W ∧ W.heap[b + 1]? = some (.loop (rc .ready)) ∧ W.heap[b]? = some (.deferred (some []))) V hbV
    (fun pre A B hJ hs hp => by
      rw [hVs] at hp hs
      exact ⟨hIp pre A B hJ.1 hs hp, (hp.1.block _ (by omega)).trans hJ.2.1, (hp.1.block _ (by omega)).trans hJ.2.2⟩) ?_ ⟨hI0, hL, hD⟩).mono ?_
  · rintro pre x W ⟨hi, hl, hk⟩ hlen hsz
    rw [hVs] at hsz ⊢
    have hlt : b + 1 < W.heap.size := by omega
    have hy := run_yield (P := P) (args := encs x) hl (by rw [hrc]; exact hps x)
    rw [hrc] at hy
    obtain ⟨W2, hW2⟩ : ∃ W2, W.putObj (b + 1) (.loop { rc .ready with state := .busy }) = W2 := ⟨_, rfl⟩
    have hl2 : W2.heap[b + 1]? = some (.loop { rc .ready with state := .busy }) := by rw [← hW2]; exact World.putObj_heap_same hlt
    have ho2 : ∀ k, k ≠ b + 1 → W2.heap[k]? = W.heap[k]? := fun k hne => by rw [← hW2]; exact World.putObj_heap_other hne
    have hs2 : W2.heap.size = W.heap.size := by rw [← hW2]; simp
    have hkp2 : Kp W W2 := by rw [← hW2]; exact hKb _ _ _ _ (by omega) hl rfl rfl
    have hi2 : I pre W2 := by rw [← hW2]; exact hI.putObj _ hi (by omega) hl rfl
    refine ⟨fn, _, assign, body, hy, roundIn_of_wpIn hfn (hassign _ x W _ ⟨W2, by rw [← hW2]; exact run_beginRound hl (by rw [hrc]), ?_⟩)⟩
    refine wpIn_mono (hbody _ pre x W2 (by omega) hi2 hlen) ?_
    rintro e a3 W3 hp
    cases e with
    | normal =>
      obtain ⟨hk3, ht3, hkp3, hi3⟩ := hp
      have hl3 := hk3.same _ _ (by omega) hl2 rfl
      have he := run_endRound (P := P) none hl3
      refine ⟨_, _, he, rfl, ⟨hI.putObj _ hi3 (by omega) hl3 rfl, ?_, ?_⟩, hKt (hKt hkp2 hkp3) (hKb _ _ _ _ (by omega) hl3 rfl rfl), ?_, ?_⟩
      · rw [World.putObj_heap_same (Array.getElem?_eq_some_iff.1 hl3).1, hrc]; rfl
      · exact (World.putObj_heap_other (by omega)).trans (hk3.same _ _ (Nat.le_refl _) ((ho2 b (by omega)).trans hk) rfl)
      · refine ⟨by simp; have := hk3.size; omega, fun k _ hB hk0 ho => ?_⟩
        exact (World.putObj_heap_other (by omega)).trans (hk3.same _ _ (by omega) ((ho2 k (by omega)).trans hk0) ho)
      · intro k hB1 hB2
        exact (World.putObj_heap_other (by omega)).trans ((ht3 k hB1 hB2).trans (ho2 k (by omega)))
    | ret => exact hp.elim
    | exit id => exact hp.elim
    | goto t => exact hp.elim
    | panic ch => exact hp.elim
    | outgrown => exact hp.elim
  · rintro e W2 ⟨⟨v, rfl⟩, xs, hS, hi, hl, hk⟩
    have he := run_endLoop (P := P) hl (by rw [hrc]; simp)
    refine ⟨none, _, by rw [hrc] at he; exact he, hdone _ xs _ (Nat.le_refl _) hS (hI.putObj _ hi (by omega) hl rfl) ((World.putObj_heap_other (by omega)).trans hk)⟩
end Go.Proofs.YtljaibhhkjapmaaDoor

/- walk.words: how long the words are that runes begin with, handed on. -/
namespace Go.Proofs.YtljaibhhkjapmaaDoor
open Go.RowKit Go.Shelf
attribute [local go_sem] Oper.semAt_some
set_option linter.unusedSimpArgs false
set_option linter.unusedVariables false

theorem u_kf_below {B : Nat} {W W' : World} (h : Below W.heap.size W W') : KeepsFrom B W W' := ⟨h.size, fun k _ _ hk _ => (h.block k (Array.getElem?_eq_some_iff.1 hk).1).trans hk⟩
theorem u_kf_up {B C : Nat} {W W' : World} (h : KeepsFrom B W W') (hB : B ≤ C) : KeepsFrom C W W' := ⟨h.size, fun k o hk h0 ho => h.same k o (Nat.le_trans hB hk) h0 ho⟩
theorem words_fn (d : Option Addr) (A : Option Addr) (n c : Nat) (w : World) : Calls Tryd.prog 58 #[.pointer d, .slice A n c] w fun e w' => e = .returned (.func (.func 87) #[] #[.pointer (some ⟨w.heap.size, 0, none⟩), .pointer (some ⟨w.heap.size + 1, 0, none⟩)]) ∧ w' = (w.alloc (.cells #[.pointer d] 25)).alloc (.cells #[.slice A n c] 84) := by
  go_enter Tryd.func58, Tryd.ntmps58
  go_wp2
  go_ret
  exact ⟨rfl, rfl⟩
/-- The lengths of words among those that are gone by. -/
def wdsL (W : Rst) (l : List Int) (ys : List Nat) : List Nat := ys.filter (fun n => decide (l.take n ∈ W))
theorem wdsL_yes {W : Rst} {l : List Int} (ys : List Nat) (x : Nat) (h : l.take x ∈ W) : wdsL W l (ys ++ [x]) = wdsL W l ys ++ [x] := by simp [wdsL, h]
theorem wdsL_no {W : Rst} {l : List Int} (ys : List Nat) (x : Nat) (h : l.take x ∉ W) : wdsL W l (ys ++ [x]) = wdsL W l ys := by simp [wdsL, h]

/-- How long a word that runes begin with may be. -/
abbrev WdI (W : Rst) (l : List Int) := { i : Nat // i ≤ l.length ∧ l.take i ∈ W }
def wdL {W : Rst} {l : List Int} (ys : List (WdI W l)) : List Nat := ys.map (·.val)
theorem wdL_snoc {W : Rst} {l : List Int} (ys : List (WdI W l)) (x : WdI W l) : wdL (ys ++ [x]) = wdL ys ++ [x.val] := by simp [wdL]
/-- Those among what a way hands on. -/
def pickW {Q : List Rst} {W : Rst} {l : List Int} : List (WyI Q W l) → List (WdI W l)
  | [] => []
  | x :: ys => if h : l.take x.val ∈ W then ⟨x.val, x.property.1, h⟩ :: pickW ys else pickW ys
theorem pickW_append {Q : List Rst} {W : Rst} {l : List Int} (a b : List (WyI Q W l)) : pickW (a ++ b) = pickW a ++ pickW b := by
  induction a with
  | nil => rfl
  | cons x a ih =>
    rw [List.cons_append, pickW, pickW]
    split <;> simp [ih]
theorem pickW_yes {Q : List Rst} {W : Rst} {l : List Int} (ys : List (WyI Q W l)) (x : WyI Q W l) (h : l.take x.val ∈ W) : pickW (ys ++ [x]) = pickW ys ++ [⟨x.val, x.property.1, h⟩] := by
  rw [pickW_append, pickW, dif_pos h]; rfl
theorem pickW_no {Q : List Rst} {W : Rst} {l : List Int} (ys : List (WyI Q W l)) (x : WyI Q W l) (h : l.take x.val ∉ W) : pickW (ys ++ [x]) = pickW ys := by
  rw [pickW_append, pickW, dif_neg h]; simp [pickW]
theorem pickW_val {Q : List Rst} {W : Rst} {l : List Int} (ys : List (WyI Q W l)) : wdL (pickW ys) = (wyL ys).filter (fun n => decide (l.take n ∈ W)) := by
  induction ys with
  | nil => rfl
  | cons x ys ih =>
    rw [pickW]
    show _ = (x.val :: wyL ys).filter _
    by_cases h : l.take x.val ∈ W
    · rw [dif_pos h, List.filter_cons_of_pos (by simpa using h), ← ih]; rfl
    · rw [dif_neg h, List.filter_cons_of_neg (by simpa using h), ← ih]
theorem pickW_len {Q : List Rst} {W : Rst} {l : List Int} (ys : List (WyI Q W l)) : (pickW ys).length ≤ ys.length := by
  have := congrArg List.length (pickW_val ys)
  rw [wdL, List.length_map] at this
  rw [this]
  exact Nat.le_trans (List.length_filter_le _ _) (by rw [wyL, List.length_map]; exact Nat.le_refl _)

set_option maxRecDepth 100000 in
set_option maxHeartbeats 4000000 in
theorem words_seq (Bd Bl n₀ d N : Nat) (A : Option Addr) (c : Nat) (l : List Int) (hN : l.length = N) (hL : N ≤ 2000000) (L : List Wrd) (W0 : Rst) (hW : W0.Pairwise (· < ·)) (Q : List Rst) (hQ : staQ W0 = Q) (hk : DgOk Q L) (w0 : World) (hw0 : w0.heap.size = n₀) (hx : DgAt w0 d Q L) (hv : Runs w0 (.slice A N c) l)
    (w : World) (hn0 : n₀ ≤ w.heap.size) (hW0 : Below n₀ w0 w) (hBd : Bd < w.heap.size) (hBl : Bl < w.heap.size)
    (hcd : w.cell? ⟨Bd, 0, none⟩ = some (.pointer (some ⟨d, 0, none⟩))) (hcl : w.cell? ⟨Bl, 0, none⟩ = some (.slice A N c)) :
    SeqT3 5 Tryd.prog 87 #[.pointer (some ⟨Bd, 0, none⟩), .pointer (some ⟨Bl, 0, none⟩)] (fun x : WdI W0 l => #[.int .i64 (x.val : Int)]) (Keep2 n₀ Bd Bl) (fun ys => wdL ys = wrdN W0 l) (wayG W0 l + 1) w := by
  intro lp J W hW1 hJ hY h0
  have hcdW : W.cell? ⟨Bd, 0, none⟩ = some (.pointer (some ⟨d, 0, none⟩)) := (hW1.cell (p := ⟨Bd, 0, none⟩) hBd).trans hcd
  have hclW : W.cell? ⟨Bl, 0, none⟩ = some (.slice A N c) := (hW1.cell (p := ⟨Bl, 0, none⟩) hBl).trans hcl
  have hBdW : Bd < W.heap.size := Nat.lt_of_lt_of_le hBd hW1.size
  have hBlW : Bl < W.heap.size := Nat.lt_of_lt_of_le hBl hW1.size
  have hnW : n₀ ≤ W.heap.size := Nat.le_trans hn0 hW1.size
  have hbW : Below n₀ w0 W := hW0.trans (hW1.mono hn0)
  have bY := Boxed.new W 161 (.func (.yield lp) #[] #[])
  have hbA := bel_one W (.cells #[.func (.yield lp) #[] #[]] 161)
  have hcdA := cell_keep hbA hcdW
  have hclA := cell_keep hbA hclW
  refine callsIn_of_wp_marks Tryd.func87 rfl trivial ?_ rfl
  simp only [Tryd.ntmps87, List.size_toArray, List.length_cons, List.length_nil, Nat.reduceAdd, Nat.reduceSub, Array.replicate_succ, Array.replicate_zero, List.push_toArray, List.append_toArray, List.nil_append, List.cons_append]
  gi_wp2_with (refine ⟨trivial, ?_⟩; gi_at_call 54; refine (callsIn_wide.2 (way_fn _ _ _ _ _)).mono ?_; rintro e w' ⟨rfl, rfl⟩)
  have bD := Boxed.new (W.alloc (.cells #[.func (.yield lp) #[] #[]] 161)) 25 (.pointer (some ⟨d, 0, none⟩))
  have bL := Boxed.new ((W.alloc (.cells #[.func (.yield lp) #[] #[]] 161)).alloc (.cells #[.pointer (some ⟨d, 0, none⟩)] 25)) 84 (.slice A N c)
  simp only [World.size_alloc] at bD bL
  have hB0 : Below W.heap.size W (((W.alloc (.cells #[.func (.yield lp) #[] #[]] 161)).alloc (.cells #[.pointer (some ⟨d, 0, none⟩)] 25)).alloc (.cells #[.slice A N c] 84)) := (((Below.refl _ W).alloc (Nat.le_refl _) _).alloc (by simp) _).alloc (by simp <;> omega) _
  refine wpIn_rangeFunc_ownH rfl (by decide) (gf := 83) (lb := #[.pointer (some ⟨W.heap.size + 1 + 1, 0, none⟩), .pointer (some ⟨W.heap.size + 1, 0, none⟩)]) rfl trivial (enters_of Tryd.func83 (by kernel_rfl) rfl)
    (way_stops 4 (by decide) (W.heap.size + 1 + 1) (W.heap.size + 1) n₀ d N A c l hN hL L W0 hW Q hQ hk w0 hw0 hx hv _ (by simp <;> omega) (hbW.trans (hB0.mono hnW)) (by simp) (by simp <;> omega) bL.cell (bD.alloc _).cell) Keep2.trans (keep2_b (by simp <;> omega) (by simp) (by simp <;> omega)) (Below.refl _ _) (fun _ => rfl)
    (fun (pre : List (WyI Q W0 l)) W' => J (pickW pre) W' ∧ Boxed W' W.heap.size 161 (.func (.yield lp) #[] #[]) ∧ Boxed W' (W.heap.size + 1) 25 (.pointer (some ⟨d, 0, none⟩)) ∧ Boxed W' (W.heap.size + 1 + 1) 84 (.slice A N c) ∧ W'.heap[Bd]? = W.heap[Bd]? ∧ Below n₀ w0 W')
    (fun _ _ _ => False)
    (fun pre X Y row hx hg hr => by
      obtain ⟨hj, y1, y2, y3, y4, y5⟩ := hx
      have hsz := y3.lt
      have hr' : ∀ r, row = some r → W.heap.size + 3 ≤ r ∧ ∃ o : Obj, X.heap[r]? = some o ∧ o.isCells = false := fun r e => ⟨by have := (hr r e).1; simp at this; omega, (hr r e).2⟩
      have hne : ∀ k, k < W.heap.size + 3 → some k ≠ row := fun k hk e => by have := (hr' k e.symm).1; omega
      exact ⟨hJ _ X Y hj (by omega) (Priv3.of_grown hg hr' (by omega)), y1.kept hg (hne _ (by omega)), y2.kept hg (hne _ (by omega)), y3.kept hg (hne _ (by omega)), (hg.block Bd (by omega) (hne _ (by omega))).trans y4, y5.trans ⟨hg.os, hg.tape, hg.output, hg.size, fun k hk => hg.block k (by omega) (hne _ (by omega))⟩⟩)
    (fun c => ownFrom_pure _ (fun _ => False))
    ⟨hJ _ _ _ h0 (Nat.le_refl _) (Priv3.of_below hB0 (Nat.le_refl _)), (bY.alloc _).alloc _, bD.alloc _, bL, hB0.block Bd hBdW, hbW.trans (hB0.mono hnW)⟩
    (fun x a' W' => a' = { tmps := #[.func (.yield lp) #[] #[], .pointer (some ⟨Bd, 0, none⟩), .pointer (some ⟨Bl, 0, none⟩), .pointer (some ⟨W.heap.size, 0, none⟩), .int .i64 (x.val : Int), .int .i64 (Q.idxOf (behP W0 (l.take x.val)) : Int), undef, undef, .pointer (some ⟨d, 0, none⟩), .slice A N c, .func (.func 83) #[] #[.pointer (some ⟨W.heap.size + 1 + 1, 0, none⟩), .pointer (some ⟨W.heap.size + 1, 0, none⟩)], .int .i64 (x.val : Int), .int .i64 (Q.idxOf (behP W0 (l.take x.val)) : Int), undef, undef, undef, undef, undef, undef, undef, undef, undef, undef, undef, undef, undef], defers := [] })
    (fun x a' s X Y row hx hg hr => hx)
    ?assign ?body ?done ?stop
  case assign =>
    rintro l' pre x W' K ⟨hj, y1, y2, y3, y4, y5⟩ hK
    simp only [wayEnc]
    gi_wp2
    exact hK _ _ (u_kf_below (Below.refl _ _)) (Keep2.refl _ _ _ _) ⟨hj, y1, y2, y3, y4, y5⟩ rfl
  case body =>
    rintro l' pre x a' W' hl' _ ⟨hj, y1, y2, y3, y4, y5⟩ rfl hlt
    have hsz := y3.lt
    have hcy := y1.cell
    have hcd' := (World.cell?_of_block y4).trans hcdW
    have cR := ends_in W' d Q L (hx.below (hw0.symm ▸ y5)) hk _ _ x.property.2
    obtain ⟨st, hst⟩ : ∃ z, Q.idxOf (behP W0 (l.take x.val)) = z := ⟨_, rfl⟩
    rw [hst] at cR
    rw [hst]
    by_cases hm : l.take x.val ∈ W0
    · rw [decide_eq_true (take_beh.2 hm)] at cR
      have CR := Lib.hid cR
      have hpk := pickW_yes pre x hm
      have hlt2 : (pickW pre).length < wayG W0 l + 1 := Nat.lt_of_le_of_lt (pickW_len pre) hlt
      clear cR
      gi_wp2_with (refine ⟨trivial, ?_⟩; gi_at_call 20; refine (CallsIn.inRound l' (callsIn_wide.2 CR.out)).mono ?_; rintro e w1 ⟨rfl, hb1⟩; have hcy1 : w1.cell? ⟨W.heap.size, 0, none⟩ = some (.func (.yield lp) #[] #[]) := cell_keep hb1 hcy; obtain ⟨fn, tmps, assign, body, hy, hR⟩ := yield_deep (l' := l') (m' := 2) (hY (pickW pre) ⟨x.val, x.property.1, hm⟩ w1 (hJ _ _ _ hj (by omega) (Priv3.of_below hb1 (by omega))) hlt2 (Nat.le_trans hsz hb1.size)))
      refine hR.mono ?_
      rintro e W3 ⟨rfl, hj3, hkp3, hkf3, hk23⟩
      gi_wp2
      exact ⟨(u_kf_below hb1).trans (u_kf_up hkf3 (by simp <;> omega)), (Keep2.of_below hb1 (by omega) hsz (by omega)).trans ⟨hkp3.1, hk23 _ (by omega) (by omega), hk23 _ (by omega) (by omega)⟩, by rw [hpk]; exact hj3, (hk23 _ (by omega) (by omega)).trans ((hb1.block _ (by omega)).trans y1), (hk23 _ (by omega) (by omega)).trans ((hb1.block _ (by omega)).trans y2), (hk23 _ (by omega) (by omega)).trans ((hb1.block _ (by omega)).trans y3), hkp3.2.1.trans ((hb1.block _ (by omega)).trans y4), (y5.trans (hb1.mono (by omega))).trans hkp3.1⟩
    · rw [decide_eq_false (fun h => hm (take_beh.1 h))] at cR
      have CR := Lib.hid cR
      have hpk := pickW_no pre x hm
      clear cR
      gi_wp2_with (refine ⟨trivial, ?_⟩; gi_at_call 20; refine (CallsIn.inRound l' (callsIn_wide.2 CR.out)).mono ?_; rintro e w1 ⟨rfl, hb1⟩)
      refine ⟨fun _ _ => trivial, ?_⟩
      gi_wp2
      exact ⟨u_kf_below hb1, Keep2.of_below hb1 (by omega) hsz (by omega), by rw [hpk]; exact hJ _ _ _ hj (by omega) (Priv3.of_below hb1 (by omega)), (hb1.block _ (by omega)).trans y1, (hb1.block _ (by omega)).trans y2, (hb1.block _ (by omega)).trans y3, (hb1.block _ (by omega)).trans y4, y5.trans (hb1.mono (by omega))⟩
  case done =>
    rintro D ys W' hD hys ⟨hj, y1, y2, y3, y4, y5⟩ hK
    have hfin : wdL (pickW ys) = wrdN W0 l := by rw [pickW_val, hys]; exact wrdN_way W0 l
    gi_wp2
    refine ⟨by simp, .inl ⟨_, _, rfl, run_takeDeferred hK, ?_⟩⟩
    refine ⟨_, results_none rfl _ _ _, ⟨_, rfl⟩, _, hfin, ?_⟩
    have hsz := y3.lt
    exact hJ _ _ _ hj (by omega) (Priv3.of_grown (grownBy_putObj' W' D (.deferred none)) (fun r e => by cases e; exact ⟨by simp at hD; omega, _, hK, rfl⟩) (by omega))
  case stop => exact fun D c pre W hD hp hF _ => hF.elim
end Go.Proofs.YtljaibhhkjapmaaDoor

/- Layer 11, plain: words that begin with a text; what a text begins with; a text's parts, as texts. -/
namespace Go.Proofs.YtljaibhhkjapmaaDoor
open Go.RowKit Go.Shelf
set_option linter.unusedVariables false
set_option linter.unusedSimpArgs false

/-- The words that begin with a text. -/
def begL (l : List Wrd) (s : ByteArray) : List Wrd := l.filter (fun x => preK s x.1)
theorem begL_take {l : List Wrd} {s : ByteArray} (k : Nat) (x : Wrd) (h : l[k]? = some x) : begL (l.take (k + 1)) s = begL (l.take k) s ++ (if preK s x.1 = true then [x] else []) := by
  unfold begL
  rw [List.take_add_one, h, List.filter_append]
  cases hp : preK s x.1 <;> simp [hp]
theorem filter_part {α : Type} (p : α → Bool) : ∀ (l : List α) (a n : Nat), a + n ≤ l.length → (∀ i y, l[i]? = some y → p y = (decide (a ≤ i) && decide (i < a + n))) → l.filter p = (l.drop a).take n := by
  intro l
  induction l with
  | nil => intro a n h _; simp
  | cons x l ih =>
    intro a n h hp
    have h0 := hp 0 x rfl
    cases a with
    | zero =>
      cases n with
      | zero =>
        rw [List.drop_zero, List.take_zero, List.filter_eq_nil_iff]
        intro y hy
        obtain ⟨i, hi⟩ := List.mem_iff_getElem?.1 hy
        rw [hp i y hi]; simp
      | succ n =>
        have e : p x = true := by rw [h0]; simp
        rw [List.filter_cons_of_pos e, List.drop_zero, List.take_succ_cons]
        congr 1
        have := ih 0 n (by simp at h ⊢; omega) (fun i y hi => by
          rw [hp (i + 1) y (by simpa using hi)]
          congr 1
          all_goals exact decide_eq_decide.2 (by omega))
        rw [this, List.drop_zero]
    | succ a =>
      have e : ¬ p x = true := by rw [h0]; simp
      rw [List.filter_cons_of_neg e, List.drop_succ_cons]
      exact ih a n (by simp at h; omega) (fun i y hi => by
        rw [hp (i + 1) y (by simpa using hi)]
        congr 1
        · exact decide_eq_decide.2 (by omega)
        · exact decide_eq_decide.2 (by omega))
/-- They stand together. -/
theorem begL_is {l : List Wrd} (hs : SrtW l) (s : ByteArray) : begL l s = (l.drop (bgF l s)).take (bgN l s) := by
  refine filter_part _ l _ _ (bgN_le l s) (fun i y hi => ?_)
  rw [beg_just hs s i y hi]
  congr 1
  · exact decide_eq_decide.2 (by omega)
  · exact decide_eq_decide.2 (by omega)
theorem begL_len {l : List Wrd} (hs : SrtW l) (s : ByteArray) : (begL l s).length = bgN l s := by
  rw [begL_is hs, List.length_take, List.length_drop]
  have := bgN_le l s
  omega

/-! The longest word that a text begins with. -/
/-- Runes' text. -/
def mkT (l : List Int) : ByteArray := ⟨(encL l).toArray⟩
theorem mkT_data (l : List Int) : (mkT l).data.toList = encL l := by simp [mkT]
theorem mkT_rn {s : ByteArray} (hv : Lib.validD s.data.toList = true) : mkT (rnK s) = s := key_ext (by rw [mkT_data]; exact enc_items _ hv)
theorem mkT_items {s : ByteArray} (hv : Lib.validD s.data.toList = true) : mkT (items s.data.toList) = s := mkT_rn hv
def lgD (l : List Wrd) (s : ByteArray) : ByteArray := l.foldl (fun out x => if preK x.1 s = true ∧ out.size < x.1.size then x.1 else out) ⟨#[]⟩
theorem lgD_take {l : List Wrd} {s : ByteArray} (k : Nat) (x : Wrd) (h : l[k]? = some x) : lgD (l.take (k + 1)) s = if preK x.1 s = true ∧ (lgD (l.take k) s).size < x.1.size then x.1 else lgD (l.take k) s := by
  unfold lgD
  rw [List.take_add_one, h, List.foldl_append]
  rfl
theorem lgD_spec (s : ByteArray) : ∀ (n : Nat) (l : List Wrd), l.length = n → (lgD l s = ⟨#[]⟩ ∨ ∃ x ∈ l, x.1 = lgD l s ∧ preK x.1 s = true) ∧ ∀ x ∈ l, preK x.1 s = true → x.1.size ≤ (lgD l s).size := by
  intro n
  induction n with
  | zero =>
    intro l h
    obtain rfl := List.eq_nil_of_length_eq_zero h
    exact ⟨.inl rfl, fun x hx => by cases hx⟩
  | succ n ih =>
    intro l h
    obtain ⟨y, hy⟩ : ∃ y, l[n]? = some y := ⟨_, List.getElem?_eq_getElem (by omega)⟩
    have e : l = l.take n ++ [y] := by
      have h1 := List.take_add_one (l := l) (i := n)
      rw [List.take_of_length_le (by omega), hy] at h1
      exact h1
    have e2 := lgD_take (s := s) n y hy
    rw [List.take_of_length_le (by omega)] at e2
    obtain ⟨i1, i2⟩ := ih (l.take n) (by rw [List.length_take]; omega)
    have hmem : ∀ x, x ∈ l ↔ x ∈ l.take n ∨ x = y := fun x => by
      constructor
      · intro hx; rw [e] at hx; rcases List.mem_append.1 hx with h1 | h1
        · exact .inl h1
        · exact .inr (by simpa using h1)
      · rintro (h1 | rfl)
        · exact List.mem_of_mem_take h1
        · exact List.mem_of_getElem? hy
    by_cases hc : preK y.1 s = true ∧ (lgD (l.take n) s).size < y.1.size
    · rw [if_pos hc] at e2
      rw [e2]
      refine ⟨.inr ⟨y, (hmem y).2 (.inr rfl), rfl, hc.1⟩, fun x hx hp => ?_⟩
      rcases (hmem x).1 hx with h1 | rfl
      · have := i2 x h1 hp; omega
      · exact Nat.le_refl _
    · rw [if_neg hc] at e2
      rw [e2]
      refine ⟨i1.imp_right (fun ⟨x, h1, h2⟩ => ⟨x, (hmem x).2 (.inl h1), h2⟩), fun x hx hp => ?_⟩
      rcases (hmem x).1 hx with h1 | rfl
      · exact i2 x h1 hp
      · rcases Nat.lt_or_ge (lgD (l.take n) s).size x.1.size with h2 | h2
        · exact absurd ⟨hp, h2⟩ hc
        · exact h2
theorem valid_of {l : List Wrd} (h : wisS l = 0) {x : Wrd} (hx : x ∈ l) : Lib.validD x.1.data.toList = true := wchk_valid (wall_zero.1 (wisS_facts h).1 x hx)
theorem no_empty {l : List Wrd} (h : wisS l = 0) : [] ∉ rnW l := fun hm => by
  obtain ⟨b, hb, e⟩ := List.mem_map.1 hm
  have h1 := wall_zero.1 (wisS_facts h).1 b hb
  have h2 : tokErr b.1.data.toList = 0 := by
    unfold wchk at h1
    split at h1
    · assumption
    · rename_i h0; exact absurd h1 h0
  have e2 : items b.1.data.toList = [] := e
  have e3 := (items_eq_nil _).1 e2
  rw [e3] at h2
  revert h2
  decide
/-- A word that a text begins with, as runes. -/
theorem pre_take {l : List Wrd} (h : wisS l = 0) {s : ByteArray} (hs : Lib.validD s.data.toList = true) {x : Wrd} (hx : x ∈ l) : preK x.1 s = true ↔ (rnK x.1).length ≤ (rnK s).length ∧ (rnK s).take (rnK x.1).length = rnK x.1 := by
  rw [preK_runes (valid_of h hx) hs]
  constructor
  · intro hp
    exact ⟨hp.length_le, (List.prefix_iff_eq_take.1 hp).symm⟩
  · rintro ⟨h1, h2⟩
    rw [← h2]; exact List.take_prefix _ _
theorem size_mkT (l : List Int) : (mkT l).size = (encL l).length := by rw [Lib.size_eq, mkT_data]
theorem mkT_take_size (l : List Int) {m n : Nat} (h : m ≤ n) : (mkT (l.take m)).size ≤ (mkT (l.take n)).size := by
  rw [size_mkT, size_mkT]
  obtain ⟨t, ht⟩ : l.take m <+: l.take n := by
    have := List.take_prefix m (l.take n)
    rwa [List.take_take, Nat.min_eq_left h] at this
  rw [← ht, encL_append, List.length_append]
  exact Nat.le_add_right _ _
/-- Parts of one beginning that are of one size are the same. -/
theorem mkT_take_eq (l : List Int) {m n : Nat} (h : m ≤ n) (hn : n ≤ l.length) (e : (mkT (l.take m)).size = (mkT (l.take n)).size) : m = n := by
  rw [size_mkT, size_mkT] at e
  have ht : l.take n = l.take m ++ (l.take n).drop m := by
    have := List.take_append_drop m (l.take n)
    rw [List.take_take, Nat.min_eq_left h] at this
    exact this.symm
  rw [ht, encL_append, List.length_append] at e
  have h0 : encL ((l.take n).drop m) = [] := List.eq_nil_of_length_eq_zero (by omega)
  have h1 : (l.take n).drop m = [] := by
    cases hd : (l.take n).drop m with
    | nil => rfl
    | cons a t =>
      rw [hd, encL_cons] at h0
      have := (encodeRune_len a).1
      have h2 := congrArg List.length h0
      rw [List.length_append, List.length_nil] at h2
      omega
  rw [List.drop_eq_nil_iff, List.length_take] at h1
  omega
/-- The longest word, as the document finds it. -/
theorem lgD_is {l : List Wrd} (h : wisS l = 0) {s : ByteArray} (hs : Lib.validD s.data.toList = true) : lgD l s = mkT ((rnK s).take (lngN (rnW l) (rnK s))) := by
  obtain ⟨g1, g2⟩ := lgD_spec s _ l rfl
  have hmem : ∀ x ∈ l, preK x.1 s = true → (rnK x.1).length ≤ (rnK s).length ∧ (rnK s).take (rnK x.1).length ∈ rnW l ∧ x.1 = mkT ((rnK s).take (rnK x.1).length) := fun x hx hp => by
    obtain ⟨h1, h2⟩ := (pre_take h hs hx).1 hp
    exact ⟨h1, by rw [h2]; exact List.mem_map.2 ⟨x, hx, rfl⟩, by rw [h2, mkT_rn (valid_of h hx)]⟩
  rcases lngN_spec (no_empty h) (rnK s) with ⟨e, h1⟩ | ⟨e, h1, h2, h3⟩
  · rw [e, List.take_zero]
    rcases g1 with g1 | ⟨x, hx, g3, g4⟩
    · rw [g1]; rfl
    · obtain ⟨a, b, _⟩ := hmem x hx g4
      exact absurd b (h1 _ a)
  · obtain ⟨k, hk⟩ : ∃ z, lngN (rnW l) (rnK s) = z := ⟨_, rfl⟩
    rw [hk] at e h1 h2 h3 ⊢
    obtain ⟨b, hb, eb⟩ := List.mem_map.1 h2
    have hlb : (rnK b.1).length = k := by rw [eb, List.length_take]; omega
    have hpb : preK b.1 s = true := (pre_take h hs hb).2 (by rw [hlb]; exact ⟨h1, eb.symm⟩)
    have e2 : b.1 = mkT ((rnK s).take k) := by rw [← eb, mkT_rn (valid_of h hb)]
    have hsz := g2 b hb hpb
    rcases g1 with g1 | ⟨x, hx, g3, g4⟩
    · rw [g1] at hsz
      have h0 : (mkT ((rnK s).take 0)).size = (mkT ((rnK s).take k)).size := by
        rw [← e2]
        have h4 : (mkT ((rnK s).take 0)).size = 0 := rfl
        have h5 : (⟨#[]⟩ : ByteArray).size = 0 := rfl
        omega
      have := mkT_take_eq (rnK s) (Nat.zero_le k) h1 h0
      omega
    · obtain ⟨c, d, e3⟩ := hmem x hx g4
      have h4 := h3 _ c d
      rw [← g3]
      have e4 : (mkT ((rnK s).take (rnK x.1).length)).size = (mkT ((rnK s).take k)).size := by
        have h6 := mkT_take_size (rnK s) h4
        rw [← e3, ← e2] at h6 ⊢
        rw [← g3] at hsz
        omega
      have h5 := mkT_take_eq (rnK s) h4 h1 e4
      rw [e3, h5]
/-- A word's longest one is itself. -/
theorem lngN_word {W : List (List Int)} (h0 : [] ∉ W) {x : List Int} (hx : x ∈ W) : lngN W x = x.length := by
  rcases lngN_spec h0 x with ⟨e, h1⟩ | ⟨e, h1, h2, h3⟩
  · exact absurd (by rw [List.take_length]; exact hx) (h1 x.length (Nat.le_refl _))
  · have := h3 x.length (Nat.le_refl _) (by rw [List.take_length]; exact hx)
    omega
end Go.Proofs.YtljaibhhkjapmaaDoor

/- Marks of loops over functions that have ended, within an ordinary loop. -/
namespace Go.Proofs.YtljaibhhkjapmaaDoor
open Go.RowKit Go.Shelf
set_option linter.unusedVariables false

def zkD (D : Nat) : Deferred := { target := .collected D, args := #[] }
/-- The marks of loops that have ended. -/
structure ZMarks (n0 : Nat) (W : World) (Ds : List Nat) : Prop where
  nd : Ds.Nodup
  at_ : ∀ D ∈ Ds, n0 ≤ D ∧ W.heap[D]? = some (.deferred (some []))
theorem z_leaves_marks {F : Fence} {n : Nat} {P : Program} {fn : Func} {tmps : Array Value} {R : Ending → World → Prop} {n0 : Nat} : ∀ (Ds : List Nat) (w : World), n0 ≤ w.heap.size → ZMarks n0 w Ds →
    (∀ w', Below n0 w w' → (∀ (k : Nat) o, w.heap[k]? = some o → o.isCells = true → w'.heap[k]? = some o) → LeavesInM F n P fn tmps R [] .returning w') → LeavesInM F n P fn tmps R (Ds.map zkD) .returning w := by
  intro Ds
  induction Ds with
  | nil => intro w h0 hM h; exact h w (Below.refl _ _) (fun _ _ hk _ => hk)
  | cons D Ds ih =>
    intro w h0 hM h
    obtain ⟨hD1, hD2⟩ := hM.at_ D (by simp)
    obtain ⟨hn1, hn2⟩ := List.nodup_cons.1 hM.nd
    have hb : Below n0 w (w.putObj D (.deferred none)) := (Below.refl n0 w).grown (grownBy_putObj' w D _) h0 (fun k e => by cases e; exact hD1)
    refine ⟨by simp, .inl ⟨D, w.putObj D (.deferred none), rfl, run_takeDeferred hD2, ih _ (by simpa using h0) ⟨hn2, fun D' hD' => ?_⟩ (fun w' hb' hk' => h w' (hb.trans hb') (fun k o hk ho => hk' k o ?_ ho))⟩⟩
    · obtain ⟨h3, h4⟩ := hM.at_ D' (by simp [hD'])
      exact ⟨h3, (World.putObj_heap_other (fun e => hn1 (by rw [← e]; exact hD'))).trans h4⟩
    · refine (World.putObj_heap_other (fun e => ?_)).trans hk
      subst e
      rw [hD2] at hk
      cases hk
      cases ho
theorem ZMarks.below {n0 : Nat} {W W' : World} {Ds : List Nat} (h : ZMarks n0 W Ds) (hb : Below W.heap.size W W') : ZMarks n0 W' Ds := ⟨h.nd, fun D hD => ⟨(h.at_ D hD).1, (hb.block D (Array.getElem?_eq_some_iff.1 (h.at_ D hD).2).1).trans (h.at_ D hD).2⟩⟩
theorem ZMarks.keeps {n0 : Nat} {W W' : World} {Ds : List Nat} (h : ZMarks n0 W Ds) (hk : KeepsOthers W W') : ZMarks n0 W' Ds := ⟨h.nd, fun D hD => ⟨(h.at_ D hD).1, hk.same _ _ (h.at_ D hD).2 rfl⟩⟩
theorem ZMarks.grown {n0 : Nat} {W W' : World} {Ds : List Nat} {row : Option Nat} (h : ZMarks n0 W Ds) (hg : W.grownBy W' row) (hr : ∀ r, row = some r → ∃ o : Obj, W.heap[r]? = some o ∧ o.isCells = true) : ZMarks n0 W' Ds :=
  ⟨h.nd, fun D hD => ⟨(h.at_ D hD).1, (hg.block D (Array.getElem?_eq_some_iff.1 (h.at_ D hD).2).1 (fun e => by
    obtain ⟨o, ho, hc⟩ := hr D e.symm
    rw [(h.at_ D hD).2] at ho
    cases ho
    cases hc)).trans (h.at_ D hD).2⟩⟩
end Go.Proofs.YtljaibhhkjapmaaDoor

