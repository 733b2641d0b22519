/- errataref01.Decode, Letters, Token: the document's answers, for every string. -/
import Derived.Test.YthigbnklekdemaaDoorRefFirst
import Derived.Test.YthigbnklekdemaaDoorTokens
namespace Go.Proofs.YthigbnklekdemaaDoor
open Go.RowKit Go.Shelf

theorem own_below {w w' : World} {base : Nat} {e : TypeId} {size n : Nat} {v : Value} {xs : List Value} (h : w.ownsRow base e size v n xs) (hb : Below w.heap.size w w') : w'.ownsRow base e size v n xs :=
  h.kept (grown_none hb) (by cases hv : v.ownBlock with
    | none => exact .inl rfl
    | some g => exact .inr (by simp))
theorem own_block {w : World} {base : Nat} {e : TypeId} {size n : Nat} {v : Value} {xs : List Value} (h : w.ownsRow base e size v n xs) : ∀ g, v.ownBlock = some g → base ≤ g := by
  intro g hg
  rcases h.2 with ⟨rfl, _⟩ | ⟨g', cap, cur, rfl, hb, _⟩
  · simp [Value.ownBlock] at hg
  · obtain rfl : g' = g := by simpa [Value.ownBlock] using hg
    exact hb
/-- The length of a string in a slot. -/
def strLen : Value → Nat | .string t => t.size | _ => 0

set_option maxRecDepth 100000 in
set_option maxHeartbeats 2000000 in
theorem refDecode_any (s : ByteArray) (w : World) (hs : s.size * 4 ≤ 140737488355328) :
    Calls Tryd.prog 43 #[.string s] w (DecPost s w) := by
  obtain ⟨L, hL⟩ : ∃ L, s.data.toList = L := ⟨_, rfl⟩
  have hLl : L.length = s.size := by rw [← hL, Lib.size_eq]
  have HL := Lib.hid hL; clear hL
  clear hLl
  go_enter Tryd.func43, Tryd.ntmps43
  go_wp2
  go_loopw [0, 4] (fun s0 s4 wr => ∃ (k : Nat) (t : ByteArray) (pre : List Int), s0 = .string t ∧ k + t.size ≤ s.size ∧ pre.length ≤ k ∧ Hid (t.data.toList = L.drop k) ∧ wr.ownsRow w.heap.size 21 1 s4 pre.length (pre.map (Value.int .i32)) ∧ Below w.heap.size w wr ∧ Hid (items L = pre ++ items (L.drop k)) ∧ Hid (Lib.validD L = Lib.validD (L.drop k))) (fun s0 _ _ => strLen s0)
  case atStart => exact ⟨0, s, [], rfl, by omega, by simp, Lib.hid (by rw [HL.out]; simp), World.ownsRow_nil _ _ _ _, Below.refl _ _, Lib.hid (by simp), Lib.hid (by simp)⟩
  case round =>
    obtain ⟨k, t, pre, rfl, hkt, hpk, HT, hrow, hB, HI, HV⟩ := hrel
    by_cases hpos : 0 < t.size
    · have C := Lib.hid (first_any t wr (by unfold maxLen; omega) hpos)
      have hne : L.drop k ≠ [] := by
        intro e
        have h1 := HT.out
        rw [e] at h1
        have h2 := Lib.size_eq t
        rw [h1, List.length_nil] at h2; omega
      have hst := items_step _ hne
      have hvt := valid_step _ hne
      rw [HT.out] at C
      have hp1 : (0 : Int) < (t.size : Int) := by omega
      cases hb : badB (L.drop k)
      · have hle := Lib.decodeL_le _ hne
        have hwd := Lib.decodeL_width (L.drop k)
        have hle2 : (Lib.decodeL (L.drop k)).2 ≤ t.size := by rw [Lib.size_eq, HT.out]; exact hle
        rw [hb] at hst hvt
        simp only [Bool.false_eq_true, if_false, List.drop_drop] at hst hvt
        have e1 : firstR (L.drop k) = ((Lib.decodeL (L.drop k)).1 : Int) := by simp [firstR, hb]
        have e2 : firstN (L.drop k) = (Lib.decodeL (L.drop k)).2 := by simp [firstN, hb]
        rw [e1, e2] at C
        obtain ⟨R, hR⟩ : ∃ R, (Lib.decodeL (L.drop k)).1 = R := ⟨_, rfl⟩
        obtain ⟨K, hK⟩ : ∃ K, (Lib.decodeL (L.drop k)).2 = K := ⟨_, rfl⟩
        rw [hR, hK] at C hst
        rw [hK] at hvt hle2 hwd
        have HS := Lib.hid hst
        have HVT := Lib.hid hvt
        clear hst hvt e1 e2 hb hle hne hR hK
        have hK0 : ((K : Int) == 0) = false := by simp; omega
        go_wp2_with fail
        refine C.out.mono ?_
        rintro e w1 ⟨rfl, hb1⟩
        have hrow1 := own_below hrow hb1
        have hB1 : Below w.heap.size w w1 := hB.trans (hb1.mono hB.size)
        have hBa : Below w1.heap.size w1 (w1.alloc (.cells #[.int .i32 (R : Int)] 21)) := (Below.refl _ _).alloc (Nat.le_refl _) _
        obtain ⟨v2, w2, hrun, hown, hg, _⟩ := append_runs _ w.heap.size _ _ _ (own_below hrow1 hBa) _ [(R : Int)] (runs_lit w1 R) (Nat.le_trans hB1.size hBa.size) (by simp; omega)
        have hB2 : Below w.heap.size w w2 := (hB1.trans (hBa.mono hB1.size)).grown hg (Nat.le_trans hB1.size hBa.size) (own_block hrow)
        have HR := Lib.hid hrun
        clear hrun
        have hsl : (K : Int) ≤ (t.size : Int) := by omega
        go_wp2_with (at_builtin; refine wpList_append_run (.tmp 17) (.tmp 19) 37 _ _ _ _ HR.out rfl rfl rfl rfl ?_)
        go_roundw
        case rel =>
          refine ⟨k + K, t.extract K t.size, pre ++ [(R : Int)], rfl, by simp; omega, by simp; omega, Lib.hid (by rw [Lib.extract_to_end, HT.out, List.drop_drop]), by simpa using hown, hB2, Lib.hid (by rw [HI.out, HS.out]; simp), Lib.hid (by rw [HV.out, HVT.out])⟩
        case measure => simp [strLen]; omega
      · rw [hb] at hst hvt
        simp only [if_true] at hst hvt
        have e1 : firstR (L.drop k) = 0 := by simp [firstR, hb]
        have e2 : firstN (L.drop k) = 0 := by simp [firstN, hb]
        rw [e1, e2] at C
        have HVT := Lib.hid hvt
        clear hst hvt e1 e2 hb hne
        go_wp2_with (go_at_call 48; refine C.out.mono ?_; rintro e w1 ⟨rfl, hb1⟩)
        go_ret2
        unfold DecPost
        rw [HL.out, HV.out, HVT.out]
        exact ⟨_, rfl, World.ownsRow_nil _ _ _ _, hB.trans (hb1.mono hB.size)⟩
    · have hz : t.size = 0 := by omega
      have hdr : L.drop k = [] := by
        have h1 := HT.out
        have h2 := Lib.size_eq t
        rw [h1, hz] at h2
        exact List.eq_nil_of_length_eq_zero h2.symm
      have HD := Lib.hid hdr
      have hp1 : ¬ (0 : Int) < (t.size : Int) := by omega
      clear hdr
      go_wp2
      go_ret2
      unfold DecPost
      rw [HL.out, HV.out, HI.out, HD.out, Lib.validD_nil, items_nil, List.append_nil]
      exact ⟨_, rfl, hrow, hB⟩

theorem refDecode_runs (s : ByteArray) (w : World) (hs : s.size * 4 ≤ 140737488355328) :
    Calls Tryd.prog 43 #[.string s] w fun e w' => ∃ A c, e = .returned (.tuple #[.slice A (decRunes s.data.toList).length c, .int .i64 (decErr s.data.toList)]) ∧ Runs w' (.slice A (decRunes s.data.toList).length c) (decRunes s.data.toList) ∧ Below w.heap.size w w' := by
  refine (refDecode_any s w hs).mono ?_
  rintro e w' ⟨v, rfl, hrow, hb⟩
  have hr : Runs w' v (decRunes s.data.toList) := Runs.of_own hrow
  have hr' := hr
  obtain ⟨A, c, rfl, _⟩ := hr'
  exact ⟨A, c, rfl, hr, hb⟩

theorem letters_bad (l : List UInt8) (h : Lib.validD l = false) : lettersB l = false := by
  have hn : ¬ ∀ x ∈ items l, x ≠ -1 := fun hh => by rw [(items_valid l).1 hh] at h; cases h
  have : ∃ x ∈ items l, x = -1 := by
    apply Classical.byContradiction
    intro hc
    exact hn (fun x hx e => hc ⟨x, hx, e⟩)
  obtain ⟨x, hx, rfl⟩ := this
  unfold lettersB
  rw [Bool.and_eq_false_iff]; right
  rw [List.all_eq_false]
  exact ⟨-1, hx, by decide⟩
theorem letters_good (l : List UInt8) : lettersB l = (decide (0 < (items l).length) && (items l).all letterB) := by
  unfold lettersB
  congr 1
  cases h : l with
  | nil => rfl
  | cons a t =>
    have : (items (a :: t)).length ≠ 0 := fun e => by
      have := (items_eq_nil (a :: t)).1 (List.eq_nil_of_length_eq_zero e); cases this
    simp; omega
theorem all_take_letters (xs : List Int) (k : Nat) (h : k < xs.length) : (xs.take (k + 1)).all letterB = ((xs.take k).all letterB && letterB (xs.getD k 0)) := by
  rw [List.take_succ_eq_append_getElem h, List.all_append, List.getD_eq_getElem?_getD, List.getElem?_eq_getElem h]
  simp
theorem all_no_letters (xs : List Int) (k : Nat) (h : k < xs.length) (hv : letterB (xs.getD k 0) = false) : xs.all letterB = false := by
  rw [List.all_eq_false]
  exact ⟨xs.getD k 0, by simp [List.getD_eq_getElem?_getD, h], fun h' => by rw [hv] at h'; cases h'⟩


set_option maxRecDepth 100000 in
set_option maxHeartbeats 1000000 in
theorem refToken_any (s : ByteArray) (w : World) (hs : s.size * 4 ≤ 140737488355328) :
    Calls Tryd.prog 36 #[.string s] w fun e w' => ∃ A c, e = .returned (.tuple #[.slice A (tokRunes s.data.toList).length c, .int .i64 (tokErr s.data.toList)]) ∧ Runs w' (.slice A (tokRunes s.data.toList).length c) (tokRunes s.data.toList) ∧ Below w.heap.size w w' := by
  have c := refDecode_runs s w hs
  cases hv : Lib.validD s.data.toList
  · have e1 : decErr s.data.toList = 3 := by simp [decErr, hv]
    have e2 : decRunes s.data.toList = [] := by simp [decRunes, hv]
    have t1 : tokErr s.data.toList = 3 := by simp [tokErr, hv]
    have t2 : tokRunes s.data.toList = [] := by simp [tokRunes, t1]
    rw [e1, e2] at c
    rw [t1, t2]
    have C := Lib.hid c
    clear c e1 e2 t1 t2 hv
    go_enter Tryd.func36, Tryd.ntmps36
    go_wp2_with fail
    refine C.out.mono ?_
    rintro e w' ⟨A, c, rfl, hr, hb⟩
    go_wp2
    go_ret2
    exact ⟨none, 0, rfl, Runs.nil_ _, hb⟩
  · have e1 : decErr s.data.toList = 0 := by simp [decErr, hv]
    have e2 : decRunes s.data.toList = items s.data.toList := by simp [decRunes, hv]
    rw [e1, e2] at c
    have t1 : tokErr s.data.toList = if (items s.data.toList).length = 0 then 4 else if 64 < (items s.data.toList).length then 5 else 0 := by simp [tokErr, hv]
    have C := Lib.hid c
    clear c e1 e2
    by_cases h0 : (items s.data.toList).length = 0
    · rw [if_pos h0] at t1
      have t2 : tokRunes s.data.toList = [] := by simp [tokRunes, t1]
      rw [t1, t2]
      rw [h0] at C
      clear t1 t2 hv h0
      go_enter Tryd.func36, Tryd.ntmps36
      go_wp2_with fail
      refine C.out.mono ?_
      rintro e w' ⟨A, c, rfl, hr, hb⟩
      go_wp2
      go_ret2
      exact ⟨none, 0, rfl, Runs.nil_ _, hb⟩
    · rw [if_neg h0] at t1
      by_cases h1 : 64 < (items s.data.toList).length
      · rw [if_pos h1] at t1
        have t2 : tokRunes s.data.toList = [] := by simp [tokRunes, t1]
        rw [t1, t2]
        obtain ⟨n, hn⟩ : ∃ n, (items s.data.toList).length = n := ⟨_, rfl⟩
        rw [hn] at C h0 h1
        have h2 : ((n : Int) == 0) = false := by simp; omega
        clear t1 t2 hv hn
        go_enter Tryd.func36, Tryd.ntmps36
        go_wp2_with fail
        refine C.out.mono ?_
        rintro e w' ⟨A, c, rfl, hr, hb⟩
        go_wp2
        go_ret2
        exact ⟨none, 0, rfl, Runs.nil_ _, hb⟩
      · rw [if_neg h1] at t1
        have t2 : tokRunes s.data.toList = items s.data.toList := by simp [tokRunes, t1]
        rw [t1, t2]
        obtain ⟨n, hn⟩ : ∃ n, (items s.data.toList).length = n := ⟨_, rfl⟩
        rw [hn] at C h0 h1 ⊢
        have h2 : ((n : Int) == 0) = false := by simp; omega
        clear t1 t2 hv hn
        go_enter Tryd.func36, Tryd.ntmps36
        go_wp2_with fail
        refine C.out.mono ?_
        rintro e w' ⟨A, c, rfl, hr, hb⟩
        go_wp2
        go_ret2
        exact ⟨A, c, rfl, hr, hb⟩
end Go.Proofs.YthigbnklekdemaaDoor
