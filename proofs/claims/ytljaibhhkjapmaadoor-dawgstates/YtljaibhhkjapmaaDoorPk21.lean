/- Texts that several proofs of this seat share, one behind the other: UDoc USplP UDoc2 UBet ULawP. -/
import Derived.Test.YtljaibhhkjapmaaDoorPk10
import Derived.Test.YtljaibhhkjapmaaDoorPk15
import Derived.Test.YtljaibhhkjapmaaDoorPk6
import Derived.Test.YtljaibhhkjapmaaDoorPk19
import Derived.Test.YtljaibhhkjapmaaDoorPk18
import Derived.Test.YtljaibhhkjapmaaDoorPk20
/- errataref11: check, begins, better, Count, Complete, Longest: what each answers. -/
namespace Go.Proofs.YtljaibhhkjapmaaDoor
open Go.RowKit Go.Shelf
attribute [local go_sem] Oper.semAt_some
set_option linter.unusedSimpArgs false
set_option linter.unusedVariables false

set_option maxRecDepth 100000 in
set_option maxHeartbeats 4000000 in
theorem ucheck_any (s : ByteArray) (w : World) (hs : s.size * 4 ≤ 140737488355328) :
    Calls Tryd.prog 55 #[.string s] w fun e w' => e = .returned (.int .i64 (uE s.data.toList)) ∧ Below w.heap.size w w' := by
  have CD := Lib.hid (refDecode_runs s w hs)
  have key : (decErr s.data.toList = 3 ∧ uE s.data.toList = 3) ∨ (decErr s.data.toList = 0 ∧ 64 < (decRunes s.data.toList).length ∧ uE s.data.toList = 5) ∨ (decErr s.data.toList = 0 ∧ ¬ 64 < (decRunes s.data.toList).length ∧ uE s.data.toList = 0) := by
    cases hv : Lib.validD s.data.toList with
    | false => left; simp [decErr, uE, hv]
    | true =>
      right
      by_cases hl : 64 < (items s.data.toList).length
      · left; simp [decErr, uE, decRunes, hv, hl]
      · right; simp [decErr, uE, decRunes, hv, hl]
  obtain ⟨er, her⟩ : ∃ z, uE s.data.toList = z := ⟨_, rfl⟩
  obtain ⟨y, hy⟩ : ∃ z, decRunes s.data.toList = z := ⟨_, rfl⟩
  obtain ⟨de, hde⟩ : ∃ z, decErr s.data.toList = z := ⟨_, rfl⟩
  rw [her, hy, hde] at key
  rw [her]
  rw [hy, hde] at CD
  clear her hy hde
  obtain ⟨n, hn⟩ : ∃ z, y.length = z := ⟨_, rfl⟩
  rw [hn] at CD key
  clear hn
  rcases key with ⟨rfl, rfl⟩ | ⟨rfl, h1, rfl⟩ | ⟨rfl, h1, rfl⟩
  · go_enter Tryd.func55, Tryd.ntmps55
    go_wp2_with fail
    refine CD.out.mono ?_
    rintro e w1 ⟨A, c, rfl, hr, hb⟩
    have HB := Lib.hid hb; clear hb hr
    go_wp2
    go_ret
    exact ⟨rfl, HB.out⟩
  · have h2 : (64 : Int) < (n : Int) := by omega
    have h3 : decide ((64 : Int) < (n : Int)) = true := decide_eq_true h2
    go_enter Tryd.func55, Tryd.ntmps55
    go_wp2_with fail
    refine CD.out.mono ?_
    rintro e w1 ⟨A, c, rfl, hr, hb⟩
    have HB := Lib.hid hb; clear hb hr
    go_wp2
    go_ret
    exact ⟨rfl, HB.out⟩
  · have h2 : ¬ (64 : Int) < (n : Int) := by omega
    have h3 : decide ((64 : Int) < (n : Int)) = false := decide_eq_false h2
    go_enter Tryd.func55, Tryd.ntmps55
    go_wp2_with fail
    refine CD.out.mono ?_
    rintro e w1 ⟨A, c, rfl, hr, hb⟩
    have HB := Lib.hid hb; clear hb hr
    go_wp2
    go_ret
    exact ⟨rfl, HB.out⟩

set_option maxRecDepth 100000 in
set_option maxHeartbeats 4000000 in
/-- errataref11.begins: does a text begin with another one? -/
theorem ubegin_any (s h : ByteArray) (w : World) : Calls Tryd.prog 57 #[.string s, .string h] w fun e w' => e = .returned (.bool (preK h s)) ∧ w' = w := by
  have hr := preK_raw h s
  obtain ⟨res, hres⟩ : ∃ z, preK h s = z := ⟨_, rfl⟩
  rw [hres] at hr ⊢
  clear hres
  by_cases h1 : h.size ≤ s.size
  · rw [decide_eq_true h1, Bool.true_and] at hr
    have i1 : (h.size : Int) ≤ (s.size : Int) := by omega
    have i2 : decide ((h.size : Int) ≤ (s.size : Int)) = true := decide_eq_true i1
    have HR := Lib.hid hr
    clear hr
    go_enter Tryd.func57, Tryd.ntmps57
    go_wp2
    go_ret
    exact ⟨by rw [HR.out]; rfl, rfl⟩
  · rw [decide_eq_false h1, Bool.false_and] at hr
    subst hr
    have i1 : ¬ (h.size : Int) ≤ (s.size : Int) := by omega
    have i2 : decide ((h.size : Int) ≤ (s.size : Int)) = false := decide_eq_false i1
    go_enter Tryd.func57, Tryd.ntmps57
    go_wp2
    go_ret
    exact ⟨rfl, rfl⟩

set_option maxRecDepth 100000 in
set_option maxHeartbeats 4000000 in
theorem ucount_ref (u : Value) (l : List Wrd) (s : ByteArray) (w : World) (hu : WRuns w u l) (hl : l.length ≤ 2000000) (hs : s.size * 4 ≤ 140737488355328) :
    Calls Tryd.prog 30 #[u, .string s] w fun e w' => e = .returned (.tuple #[.int .i64 (if uE s.data.toList = 0 then ((begL l s).length : Int) else 0), .int .i64 (uE s.data.toList)]) ∧ Below w.heap.size w w' := by
  have c1 := ucheck_any s w hs
  obtain ⟨A, c, e⟩ := hu.slice
  subst e
  by_cases h0 : uE s.data.toList = 0
  · rw [if_pos h0, h0]
    rw [h0] at c1
    obtain ⟨f, hf⟩ : ∃ f, f = fun k => (begL (l.take k) s).length := ⟨_, rfl⟩
    have hst : ∀ k x, l[k]? = some x → f (k + 1) = f k + (if preK s x.1 = true then 1 else 0) := fun k x hx => by
      rw [hf]; simp only; rw [begL_take k x hx, List.length_append]; split <;> rfl
    have hbd : ∀ k, f k ≤ k := fun k => by rw [hf]; exact Nat.le_trans (List.length_filter_le _ _) (by rw [List.length_take]; omega)
    have hf0 : f 0 = 0 := by rw [hf]; rfl
    obtain ⟨n, hn⟩ : ∃ n, l.length = n := ⟨_, rfl⟩
    have hfn : (begL l s).length = f n := by rw [hf]; simp only; rw [List.take_of_length_le (by rw [hn]; exact Nat.le_refl _)]
    rw [hfn]
    rw [hn] at hu hl ⊢
    have C1 := Lib.hid c1; have HU := Lib.hid hu; have HN := Lib.hid hn; have HST := Lib.hid hst; have HBD := Lib.hid hbd; have HF0 := Lib.hid hf0
    clear c1 hu hn hst hbd hf0 hfn hf h0 hs
    go_enter Tryd.func30, Tryd.ntmps30
    go_wp2_with fail
    refine C1.out.mono ?_
    rintro e w1 ⟨rfl, b1⟩
    have B1 := Lib.hid b1; clear b1
    go_wp2
    go_loopw [7, 17] (fun s7 s17 wr => ∃ k : Nat, k ≤ n ∧ s17 = .int .i64 k ∧ s7 = .int .i64 (f k : Nat) ∧ Hid (Below w.heap.size w wr)) (fun _ s17 _ => n - (RowKit.intOf s17).toNat)
    case atStart => exact ⟨0, Nat.zero_le _, rfl, by rw [HF0.out]; rfl, B1⟩
    case round =>
      obtain ⟨k, hkn, rfl, rfl, BW⟩ := hrel
      by_cases hk : k < n
      · have k1 : (k : Int) < (n : Int) := by omega
        obtain ⟨⟨p1, p2⟩, hp⟩ : ∃ p, l[k]? = some p := ⟨_, List.getElem?_eq_getElem (by rw [HN.out]; exact hk)⟩
        obtain ⟨b, o, rfl, _, hc⟩ := (HU.out.below BW.out).cells HN.out (by omega)
        obtain ⟨g0, g1⟩ := wrd_cells hc hp
        simp only at g0 g1
        have hs1 := HST.out k _ hp
        have hb1 := HBD.out k
        simp only at hs1
        have hal : Hid (Below w.heap.size w (wr.alloc (.cells #[.string p1, .int .i64 p2] 72))) := Lib.hid (BW.out.alloc BW.out.size _)
        have cb := fun w => ubegin_any p1 s w
        obtain ⟨pk, hpk⟩ : ∃ z, preK s p1 = z := ⟨_, rfl⟩
        simp only [hpk] at cb hs1
        obtain ⟨fk, hfk⟩ : ∃ z, f k = z := ⟨_, rfl⟩
        rw [hfk] at hs1 hb1 ⊢
        have HS1 := Lib.hid hs1; have CB := Lib.hid cb
        clear hc hp hs1 cb hpk hfk
        cases pk
        · go_wp2_with fail
          refine (CB.out _).mono ?_
          rintro e w5 ⟨rfl, e5⟩
          obtain rfl := e5.symm
          go_wp2
          exact ⟨⟨k + 1, by omega, by go_num, by rw [HS1.out]; simp, hal⟩, by simp [RowKit.intOf]; omega⟩
        · go_wp2_with fail
          refine (CB.out _).mono ?_
          rintro e w5 ⟨rfl, e5⟩
          obtain rfl := e5.symm
          go_wp2
          exact ⟨⟨k + 1, by omega, by go_num, by rw [HS1.out]; simp, hal⟩, by simp [RowKit.intOf]; omega⟩
      · obtain rfl : k = n := by omega
        go_wp2
        go_ret2
        exact ⟨rfl, BW.out⟩
  · have h0' : (uE s.data.toList == 0) = false := by simpa using h0
    have h0'' : (uE s.data.toList != 0) = true := by simpa using h0
    rw [if_neg h0]
    obtain ⟨er, her⟩ : ∃ z, uE s.data.toList = z := ⟨_, rfl⟩
    rw [her] at c1 h0' h0'' ⊢
    have C1 := Lib.hid c1
    clear c1 hu h0 her
    go_enter Tryd.func30, Tryd.ntmps30
    go_wp2_with fail
    refine C1.out.mono ?_
    rintro e w1 ⟨rfl, b1⟩
    have B1 := Lib.hid b1; clear b1
    go_wp2
    go_ret2
    exact ⟨rfl, B1.out⟩

set_option maxRecDepth 100000 in
set_option maxHeartbeats 8000000 in
theorem ulongest_ref (u : Value) (l : List Wrd) (s : ByteArray) (w : World) (hu : WRuns w u l) (hl : l.length ≤ 2000000) (hs : s.size * 4 ≤ 140737488355328) :
    Calls Tryd.prog 32 #[u, .string s] w fun e w' => e = .returned (.tuple #[.string (if uE s.data.toList = 0 then lgD l s else ⟨#[]⟩), .int .i64 (if uE s.data.toList = 0 then (if lgD l s = ⟨#[]⟩ then 10 else 0) else uE s.data.toList)]) ∧ Below w.heap.size w w' := by
  have c1 := ucheck_any s w hs
  obtain ⟨A, c, e⟩ := hu.slice
  subst e
  by_cases h0 : uE s.data.toList = 0
  · rw [if_pos h0, if_pos h0]
    rw [h0] at c1
    obtain ⟨f, hf⟩ : ∃ f, f = fun k => lgD (l.take k) s := ⟨_, rfl⟩
    have hst : ∀ k x, l[k]? = some x → f (k + 1) = if preK x.1 s = true ∧ (f k).size < x.1.size then x.1 else f k := fun k x hx => by
      rw [hf]; exact lgD_take k x hx
    have hf0 : f 0 = ⟨#[]⟩ := by rw [hf]; rfl
    obtain ⟨n, hn⟩ : ∃ n, l.length = n := ⟨_, rfl⟩
    have hfn : lgD l s = f n := by rw [hf]; simp only; rw [List.take_of_length_le (by rw [hn]; exact Nat.le_refl _)]
    rw [hfn]
    rw [hn] at hu hl ⊢
    have C1 := Lib.hid c1; have HU := Lib.hid hu; have HN := Lib.hid hn; have HST := Lib.hid hst; have HF0 := Lib.hid hf0
    obtain ⟨oe, hoe⟩ : ∃ z, (if f n = ⟨#[]⟩ then (10 : Int) else 0) = z := ⟨_, rfl⟩
    obtain ⟨os, hos⟩ : ∃ z, f n = z := ⟨_, rfl⟩
    rw [hoe, hos]
    have HOE := Lib.hid hoe; have HOS := Lib.hid hos
    clear c1 hu hn hst hf0 hfn hf h0 hs hoe hos
    go_enter Tryd.func32, Tryd.ntmps32
    go_wp2_with fail
    refine C1.out.mono ?_
    rintro e w1 ⟨rfl, b1⟩
    have B1 := Lib.hid b1; clear b1
    go_wp2
    go_loopw [7, 17] (fun s7 s17 wr => ∃ (k : Nat) (fk : ByteArray), k ≤ n ∧ s17 = .int .i64 k ∧ s7 = .string fk ∧ Hid (f k = fk) ∧ Hid (Below w.heap.size w wr)) (fun _ s17 _ => n - (RowKit.intOf s17).toNat)
    case atStart => exact ⟨0, _, Nat.zero_le _, rfl, rfl, HF0, B1⟩
    case round =>
      obtain ⟨k, fk, hkn, rfl, rfl, HFK, BW⟩ := hrel
      by_cases hk : k < n
      · have k1 : (k : Int) < (n : Int) := by omega
        obtain ⟨⟨p1, p2⟩, hp⟩ : ∃ p, l[k]? = some p := ⟨_, List.getElem?_eq_getElem (by rw [HN.out]; exact hk)⟩
        obtain ⟨b, o, rfl, _, hc⟩ := (HU.out.below BW.out).cells HN.out (by omega)
        obtain ⟨g0, g1⟩ := wrd_cells hc hp
        simp only at g0 g1
        have hs1 := HST.out k _ hp
        simp only at hs1
        rw [HFK.out] at hs1
        have hal : Hid (Below w.heap.size w (wr.alloc (.cells #[.string p1, .int .i64 p2] 72))) := Lib.hid (BW.out.alloc BW.out.size _)
        have cb := fun w => ubegin_any s p1 w
        obtain ⟨pk, hpk⟩ : ∃ z, preK p1 s = z := ⟨_, rfl⟩
        simp only [hpk] at cb hs1
        have HS1 := Lib.hid hs1; have CB := Lib.hid cb
        clear hc hp hs1 cb hpk
        cases pk
        · have hs2 : Hid (f (k + 1) = fk) := Lib.hid (by rw [HS1.out, if_neg (by simp)])
          go_wp2_with fail
          refine (CB.out _).mono ?_
          rintro e w5 ⟨rfl, e5⟩
          obtain rfl := e5.symm
          go_wp2
          exact ⟨⟨k + 1, _, by omega, by go_num, rfl, hs2, hal⟩, by simp [RowKit.intOf]; omega⟩
        · by_cases hsz : fk.size < p1.size
          · have hs2 : Hid (f (k + 1) = p1) := Lib.hid (by rw [HS1.out, if_pos ⟨rfl, hsz⟩])
            have j1 : (fk.size : Int) < (p1.size : Int) := by omega
            have j2 : decide ((fk.size : Int) < (p1.size : Int)) = true := decide_eq_true j1
            go_wp2_with fail
            refine (CB.out _).mono ?_
            rintro e w5 ⟨rfl, e5⟩
            obtain rfl := e5.symm
            go_wp2
            exact ⟨⟨k + 1, _, by omega, by go_num, rfl, hs2, hal⟩, by simp [RowKit.intOf]; omega⟩
          · have hs2 : Hid (f (k + 1) = fk) := Lib.hid (by rw [HS1.out, if_neg (fun h => hsz h.2)])
            have j1 : ¬ (fk.size : Int) < (p1.size : Int) := by omega
            have j2 : decide ((fk.size : Int) < (p1.size : Int)) = false := decide_eq_false j1
            go_wp2_with fail
            refine (CB.out _).mono ?_
            rintro e w5 ⟨rfl, e5⟩
            obtain rfl := e5.symm
            go_wp2
            exact ⟨⟨k + 1, _, by omega, by go_num, rfl, hs2, hal⟩, by simp [RowKit.intOf]; omega⟩
      · obtain rfl : k = n := by omega
        obtain rfl : fk = os := by rw [← HFK.out, HOS.out]
        by_cases hem : fk = ⟨#[]⟩
        · subst hem
          have e2 : Hid (oe = 10) := Lib.hid (by rw [← HOE.out, HFK.out, if_pos rfl])
          go_wp2
          go_ret2
          exact ⟨by rw [e2.out]; rfl, BW.out⟩
        · have e2 : Hid (oe = 0) := Lib.hid (by rw [← HOE.out, HFK.out, if_neg hem])
          have e3 : fk.toList.isEmpty = false := by
            cases h : fk.toList with
            | nil => exact absurd (key_ext (by rw [← Lib.toList_data, h])) hem
            | cons a t => rfl
          have e4 : (fk.toList == []) = false := by
            cases h : fk.toList with
            | nil => rw [h] at e3; cases e3
            | cons a t => rfl
          go_wp2
          go_ret2
          exact ⟨by rw [e2.out]; rfl, BW.out⟩
  · have h0' : (uE s.data.toList == 0) = false := by simpa using h0
    have h0'' : (uE s.data.toList != 0) = true := by simpa using h0
    rw [if_neg h0, if_neg h0]
    obtain ⟨er, her⟩ : ∃ z, uE s.data.toList = z := ⟨_, rfl⟩
    rw [her] at c1 h0' h0'' ⊢
    have C1 := Lib.hid c1
    clear c1 hu h0 her
    go_enter Tryd.func32, Tryd.ntmps32
    go_wp2_with fail
    refine C1.out.mono ?_
    rintro e w1 ⟨rfl, b1⟩
    have B1 := Lib.hid b1; clear b1
    go_wp2
    go_ret2
    exact ⟨rfl, B1.out⟩
end Go.Proofs.YtljaibhhkjapmaaDoor

/- Layer 11, plain: the document's way of parting a text, byte by byte, is the fewest words, the longer first. -/
namespace Go.Proofs.YtljaibhhkjapmaaDoor
open Go.RowKit Go.Shelf
set_option linter.unusedVariables false
set_option linter.unusedSimpArgs false

/-- Whether an end of a text is made of words; of which. -/
def mdB (W : List (List Int)) (b : List UInt8) : Bool := Lib.validD b && decide ((cut W (items b)).1 ≠ 65)
def wyT (W : List (List Int)) (b : List UInt8) : List ByteArray := if mdB W b = true then (spl W (items b)).map mkT else []
theorem mdB_nil (W : List (List Int)) : mdB W [] = true ∧ wyT W [] = [] := by
  have h : mdB W [] = true := by
    unfold mdB
    rw [items_nil, cut_nil]
    rfl
  exact ⟨h, by unfold wyT; rw [if_pos h]; rfl⟩
theorem wyT_len {W : List (List Int)} {b : List UInt8} (h : mdB W b = true) : (wyT W b).length = (cut W (items b)).1 := by
  unfold wyT
  rw [if_pos h, List.length_map]
  unfold mdB at h
  rw [Bool.and_eq_true, decide_eq_true_eq] at h
  exact spl_len h.2
/-- Whether a way is better than another one. -/
def betF : List ByteArray → List ByteArray → Bool
  | x :: a, y :: b => if x.size ≠ y.size then decide (y.size < x.size) else betF a b
  | _, _ => false
def betB (a b : List ByteArray) : Bool := if a.length ≠ b.length then decide (a.length < b.length) else betF a b
/-- Whether a word may be the first one, where an end of a text begins with it. -/
def cndB (W : List (List Int)) (b : List UInt8) (x : Wrd) : Bool := Lib.hasPrefix b x.1.data.toList && mdB W (b.drop x.1.size)
/-- One word more that is looked at. -/
def stpW (W : List (List Int)) (b : List UInt8) (acc : Option (List ByteArray)) (x : Wrd) : Option (List ByteArray) :=
  if cndB W b x = true then
    (match acc with
      | none => some (x.1 :: wyT W (b.drop x.1.size))
      | some a => if betB (x.1 :: wyT W (b.drop x.1.size)) a = true then some (x.1 :: wyT W (b.drop x.1.size)) else some a)
  else acc
def accW (W : List (List Int)) (b : List UInt8) (l : List Wrd) : Option (List ByteArray) := l.foldl (stpW W b) none
theorem accW_take {W : List (List Int)} {b : List UInt8} {l : List Wrd} (k : Nat) (x : Wrd) (h : l[k]? = some x) : accW W b (l.take (k + 1)) = stpW W b (accW W b (l.take k)) x := by
  unfold accW
  rw [List.take_add_one, h, List.foldl_append]
  rfl
theorem pre_bytes {b x : List UInt8} : Lib.hasPrefix b x = true ↔ x <+: b := by
  unfold Lib.hasPrefix
  rw [List.isPrefixOf_iff_prefix]
/-- Two words that an end begins with: the later one is longer. -/
theorem later_longer {x y : ByteArray} {b : List UInt8} (h : ltK x y = true) (hx : x.data.toList <+: b) (hy : y.data.toList <+: b) : x.size < y.size := by
  rcases Nat.lt_or_ge x.size y.size with h1 | h1
  · exact h1
  · have h2 : y.data.toList <+: x.data.toList := List.prefix_of_prefix_length_le hy hx (by rw [← Lib.size_eq, ← Lib.size_eq]; exact h1)
    exact absurd ((ltK_iff x y).1 h) (not_lt_pre h2)
theorem betB_cons {x y : ByteArray} {a b : List ByteArray} (h : y.size < x.size) : betB (x :: a) (y :: b) = decide (a.length ≤ b.length) := by
  unfold betB
  rw [List.length_cons, List.length_cons]
  by_cases h1 : a.length + 1 ≠ b.length + 1
  · rw [if_pos h1]
    exact decide_eq_decide.2 (by omega)
  · rw [if_neg h1, betF, if_pos (by omega), decide_eq_true h, decide_eq_true (by omega)]
theorem accW_spec (W : List (List Int)) (b : List UInt8) : ∀ (n : Nat) (l : List Wrd), l.length = n → SrtW l →
    (accW W b l = none ∧ ∀ x ∈ l, cndB W b x = false) ∨
    (∃ x ∈ l, cndB W b x = true ∧ accW W b l = some (x.1 :: wyT W (b.drop x.1.size)) ∧ ∀ y ∈ l, cndB W b y = true → (wyT W (b.drop x.1.size)).length ≤ (wyT W (b.drop y.1.size)).length ∧ ((wyT W (b.drop y.1.size)).length = (wyT W (b.drop x.1.size)).length → y.1.size ≤ x.1.size)) := by
  intro n
  induction n with
  | zero =>
    intro l h _
    obtain rfl := List.eq_nil_of_length_eq_zero h
    exact .inl ⟨rfl, fun x hx => by cases hx⟩
  | succ n ih =>
    intro l h hs
    obtain ⟨y, hy⟩ : ∃ y, l[n]? = some y := ⟨_, List.getElem?_eq_getElem (by omega)⟩
    have e : l = l.take n ++ [y] := by
      have h1 := List.take_add_one (l := l) (i := n)
      rw [List.take_of_length_le (by omega), hy] at h1
      exact h1
    have e2 := accW_take (W := W) (b := b) n y hy
    rw [List.take_of_length_le (by omega)] at e2
    have hs2 : SrtW (l.take n) := (ordW_srt _).1 (by
      have : ∀ (l : List Wrd) (k : Nat), SrtW l → SrtW (l.take k) := by
        intro l
        induction l with
        | nil => intro k _; rw [List.take_nil]; exact trivial
        | cons a l ih =>
          intro k hk
          cases k with
          | zero => exact trivial
          | succ k => exact ⟨fun b hb => hk.1 b (List.mem_of_mem_take hb), ih k hk.2⟩
      exact (ordW_srt _).2 (this l n hs))
    have hlt : ∀ x ∈ l.take n, ltK x.1 y.1 = true := fun x hx => by
      obtain ⟨i, hi⟩ := List.mem_iff_getElem?.1 hx
      rw [List.getElem?_take] at hi
      split at hi
      · exact srtW_at hs (by assumption) hi hy
      · cases hi
    have hmem : ∀ x, x ∈ l ↔ x ∈ l.take n ∨ x = y := fun x => by
      constructor
      · intro hx; rw [e] at hx; rcases List.mem_append.1 hx with h1 | h1
        · exact .inl h1
        · exact .inr (by simpa using h1)
      · rintro (h1 | rfl)
        · exact List.mem_of_mem_take h1
        · exact List.mem_of_getElem? hy
    have i0 := ih (l.take n) (by rw [List.length_take]; omega) hs2
    rw [e2]
    unfold stpW
    by_cases hc : cndB W b y = true
    · rw [if_pos hc]
      rcases i0 with ⟨h1, h2⟩ | ⟨x, hx, hcx, h1, h2⟩
      · rw [h1]
        refine .inr ⟨y, (hmem y).2 (.inr rfl), hc, rfl, fun z hz hcz => ?_⟩
        rcases (hmem z).1 hz with h3 | rfl
        · rw [h2 z h3] at hcz; cases hcz
        · exact ⟨Nat.le_refl _, fun _ => Nat.le_refl _⟩
      · rw [h1]
        have hcb := hc
        have hcbx := hcx
        unfold cndB at hcb hcbx
        rw [Bool.and_eq_true, pre_bytes] at hcb hcbx
        have hll : ∀ z ∈ l.take n, cndB W b z = true → z.1.size < y.1.size := fun z hz hcz => by
          unfold cndB at hcz
          rw [Bool.and_eq_true, pre_bytes] at hcz
          exact later_longer (hlt z hz) hcz.1 hcb.1
        have hbe := betB_cons (a := wyT W (b.drop y.1.size)) (b := wyT W (b.drop x.1.size)) (hll x hx hcx)
        simp only
        rw [hbe]
        by_cases hle : (wyT W (b.drop y.1.size)).length ≤ (wyT W (b.drop x.1.size)).length
        · rw [if_pos (decide_eq_true hle)]
          refine .inr ⟨y, (hmem y).2 (.inr rfl), hc, rfl, fun z hz hcz => ?_⟩
          rcases (hmem z).1 hz with h3 | rfl
          · have h4 := h2 z h3 hcz
            have h5 := hll z h3 hcz
            exact ⟨by omega, fun _ => by omega⟩
          · exact ⟨Nat.le_refl _, fun _ => Nat.le_refl _⟩
        · rw [if_neg (by simpa using hle)]
          refine .inr ⟨x, (hmem x).2 (.inl hx), hcx, rfl, fun z hz hcz => ?_⟩
          rcases (hmem z).1 hz with h3 | rfl
          · exact h2 z h3 hcz
          · exact ⟨by omega, fun e => by omega⟩
    · rw [if_neg hc]
      rcases i0 with ⟨h1, h2⟩ | ⟨x, hx, hcx, h1, h2⟩
      · refine .inl ⟨h1, fun z hz => ?_⟩
        rcases (hmem z).1 hz with h3 | rfl
        · exact h2 z h3
        · simpa using hc
      · refine .inr ⟨x, (hmem x).2 (.inl hx), hcx, h1, fun z hz hcz => ?_⟩
        rcases (hmem z).1 hz with h3 | rfl
        · exact h2 z h3 hcz
        · exact absurd hcz hc
/-- A word that may be first, in an end that is a text: how long it is, in runes. -/
theorem cnd_runes {l : List Wrd} (h : wisS l = 0) {b : List UInt8} {x : Wrd} (hx : x ∈ l) (hc : cndB (rnW l) b x = true) : Lib.validD b = true ∧ (rnK x.1).length ∈ wrdN (rnW l) (items b) ∧ items (b.drop x.1.size) = (items b).drop (rnK x.1).length ∧ (items b).take (rnK x.1).length = rnK x.1 ∧ (cut (rnW l) ((items b).drop (rnK x.1).length)).1 ≠ 65 ∧ (wyT (rnW l) (b.drop x.1.size)).length = (cut (rnW l) ((items b).drop (rnK x.1).length)).1 := by
  have hl := wyT_len (W := rnW l) (b := b.drop x.1.size)
  unfold cndB at hc
  rw [Bool.and_eq_true, pre_bytes] at hc
  obtain ⟨h1, h2⟩ := hc
  have hl2 := hl h2
  unfold mdB at h2
  rw [Bool.and_eq_true, decide_eq_true_eq] at h2
  have hv := valid_of h hx
  have e : b = x.1.data.toList ++ b.drop x.1.size := by
    obtain ⟨t, ht⟩ := h1
    rw [← ht, Lib.size_eq, List.drop_left]
  obtain ⟨h3, h4⟩ := items_join x.1.data.toList (b.drop x.1.size) hv
  rw [← e] at h3 h4
  have h5 : items b = rnK x.1 ++ items (b.drop x.1.size) := h3
  have hd : (items b).drop (rnK x.1).length = items (b.drop x.1.size) := by
    have : (rnK x.1 ++ items (b.drop x.1.size)).drop (rnK x.1).length = items (b.drop x.1.size) := List.drop_left
    rwa [← h5] at this
  have ht : (items b).take (rnK x.1).length = rnK x.1 := by
    have : (rnK x.1 ++ items (b.drop x.1.size)).take (rnK x.1).length = rnK x.1 := List.take_left
    rwa [← h5] at this
  have hle : (rnK x.1).length ≤ (items b).length := by
    have := congrArg List.length h5
    rw [List.length_append] at this
    omega
  refine ⟨h4.trans h2.1, mem_wrdN.2 ⟨hle, by rw [ht]; exact List.mem_map.2 ⟨x, hx, rfl⟩⟩, hd.symm, ht, by rw [hd]; exact h2.2, by rw [hd]; exact hl2⟩
/-- And the other way round. -/
theorem cnd_of {l : List Wrd} (h : wisS l = 0) {b : List UInt8} (hb : Lib.validD b = true) {n : Nat} (hn : n ∈ wrdN (rnW l) (items b)) (hc : (cut (rnW l) ((items b).drop n)).1 ≠ 65) : ∃ x ∈ l, (rnK x.1).length = n ∧ cndB (rnW l) b x = true := by
  obtain ⟨h1, h2⟩ := mem_wrdN.1 hn
  obtain ⟨x, hx, e⟩ := List.mem_map.1 h2
  have hv := valid_of h hx
  have hlen : (rnK x.1).length = n := by rw [e, List.length_take]; omega
  have hpre : rnK x.1 <+: items b := by rw [e]; exact List.take_prefix _ _
  have hp : x.1.data.toList <+: b := by
    obtain ⟨t, ht⟩ := hpre
    have h3 := enc_items b hb
    rw [← ht, encL_append, show encL (rnK x.1) = x.1.data.toList from enc_items _ hv] at h3
    exact ⟨_, h3⟩
  have e2 : b = x.1.data.toList ++ b.drop x.1.size := by
    obtain ⟨t, ht⟩ := hp
    rw [← ht, Lib.size_eq, List.drop_left]
  obtain ⟨h3, h4⟩ := items_join x.1.data.toList (b.drop x.1.size) hv
  rw [← e2] at h3 h4
  have h5 : items b = rnK x.1 ++ items (b.drop x.1.size) := h3
  have hd : (items b).drop n = items (b.drop x.1.size) := by
    have : (rnK x.1 ++ items (b.drop x.1.size)).drop (rnK x.1).length = items (b.drop x.1.size) := List.drop_left
    rwa [← h5, hlen] at this
  refine ⟨x, hx, hlen, ?_⟩
  unfold cndB mdB
  rw [Bool.and_eq_true, Bool.and_eq_true, pre_bytes, decide_eq_true_eq]
  exact ⟨hp, by rw [← h4]; exact hb, by rw [← hd]; exact hc⟩
/-- What the document finds of an end of a text. -/
theorem accW_is {l : List Wrd} (h : wisS l = 0) {b : List UInt8} (hne : b ≠ []) (hl : Lib.validD b = true → (items b).length ≤ 64) : accW (rnW l) b l = if mdB (rnW l) b = true then some (wyT (rnW l) b) else none := by
  have h0 := no_empty h
  rcases accW_spec (rnW l) b _ l rfl (wisS_facts h).2.1 with ⟨h1, h2⟩ | ⟨x, hx, hc, h1, h2⟩
  · rw [h1, if_neg]
    intro hm
    have hm2 := hm
    unfold mdB at hm2
    rw [Bool.and_eq_true, decide_eq_true_eq] at hm2
    have hne2 : items b ≠ [] := fun e => hne ((items_eq_nil b).1 e)
    rcases cut_spec h0 hne2 with ⟨e, _⟩ | ⟨n, hn, e, h3, _⟩
    · rw [e] at hm2; exact hm2.2 rfl
    · obtain ⟨y, hy, _, hcy⟩ := cnd_of h hm2.1 hn (by omega)
      rw [h2 y hy] at hcy
      cases hcy
  · obtain ⟨c1, c2, c3, c4, c5, c6⟩ := cnd_runes h hx hc
    have hl' := hl c1
    have hne2 : items b ≠ [] := fun e => hne ((items_eq_nil b).1 e)
    rcases cut_spec h0 hne2 with ⟨e, h3⟩ | ⟨n, hn, e, h3, h4⟩
    · exact absurd (h3 _ c2) c5
    · obtain ⟨y, hy, hyl, hcy⟩ := cnd_of h c1 hn (by omega)
      obtain ⟨d1, d2, d3, d4, d5, d6⟩ := cnd_runes h hy hcy
      rw [hyl] at d2 d3 d4 d5 d6
      obtain ⟨a1, a2⟩ := h4 _ c2
      obtain ⟨b1, b2⟩ := h2 y hy hcy
      rw [c6, d6] at b1 b2
      have e5 := a2 (by omega)
      have e6 := b2 (by omega)
      have e7 : x.1 = mkT ((items b).take (rnK x.1).length) := by rw [c4, mkT_rn (valid_of h hx)]
      have e8 : y.1 = mkT ((items b).take n) := by rw [d4, mkT_rn (valid_of h hy)]
      have e9 := mkT_take_size (items b) e5
      rw [← e7, ← e8] at e9
      have hnl := (mem_wrdN.1 hn).1
      have e10 := mkT_take_eq (items b) e5 hnl (by rw [← e7, ← e8]; omega)
      have hnz := wrdN_pos h0 hn
      have hcl := cut_len h0 _ ((items b).drop n) rfl
      rw [List.length_drop] at hcl
      have hm1 : (cut (rnW l) (items b)).1 ≠ 65 := by
        rw [e]
        show 1 + (cut (rnW l) ((items b).drop n)).1 ≠ 65
        omega
      have hm : mdB (rnW l) b = true := by
        unfold mdB
        rw [Bool.and_eq_true, decide_eq_true_eq]
        exact ⟨c1, hm1⟩
      rw [h1, if_pos hm]
      congr 1
      have hcd := hc
      unfold cndB at hcd
      rw [Bool.and_eq_true] at hcd
      have hw : wyT (rnW l) (b.drop x.1.size) = (spl (rnW l) ((items b).drop n)).map mkT := by
        unfold wyT
        rw [if_pos hcd.2, c3, e10]
      unfold wyT at hw ⊢
      rw [if_pos hm, hw, spl_cons h0 hne2 hm1 hl', e]
      rw [List.map_cons]
      congr 1
      rw [e7, e10]
theorem suffix_len {s b : List UInt8} (hs : Lib.validD s = true) (hb : Lib.validD b = true) (h : b <:+ s) : (items b).length ≤ (items s).length := by
  obtain ⟨p, rfl⟩ := h
  have hp : Lib.validD p = true := by
    cases hv : Lib.validD p with
    | true => rfl
    | false => have := join_bad p b hv hb; rw [hs] at this; cases this
  have := (items_join p b hp).1
  rw [this, List.length_append]
  omega
end Go.Proofs.YtljaibhhkjapmaaDoor

/- errataref11: Complete, better. -/
namespace Go.Proofs.YtljaibhhkjapmaaDoor
open Go.RowKit Go.Shelf
attribute [local go_sem] Oper.semAt_some
set_option linter.unusedSimpArgs false
set_option linter.unusedVariables false

theorem comp_step {α : Type} (a : List α) (x : α) (K : Nat) : ((a.take K).length < K → (a ++ [x]).take K = a.take K ++ [x]) ∧ (¬ (a.take K).length < K → (a ++ [x]).take K = a.take K) := by
  constructor
  · intro h
    rw [List.length_take] at h
    rw [List.take_of_length_le (by rw [List.length_append]; simp; omega), List.take_of_length_le (by omega)]
  · intro h
    rw [List.length_take] at h
    rw [List.take_append_of_le_length (by omega)]
set_option maxRecDepth 100000 in
set_option maxHeartbeats 8000000 in
theorem ucomplete_ref (u : Value) (l : List Wrd) (s : ByteArray) (kk : Int) (w : World) (hu : WRuns w u l) (hl : l.length ≤ 2000000) (hs : s.size * 4 ≤ 140737488355328) :
    Calls Tryd.prog 34 #[u, .string s, .int .i64 kk] w fun e w' => ∃ v, e = .returned (.tuple #[v, .int .i64 (ucpE s kk)]) ∧ WRuns w' v (ucpS l s kk) ∧ Below w.heap.size w w' := by
  have c1 := ucheck_any s w hs
  obtain ⟨A, c, e⟩ := hu.slice
  subst e
  have hpE : ucpE s kk = if uE s.data.toList = 0 then (if kk < 0 ∨ 1000 < kk then 2 else 0) else uE s.data.toList := rfl
  have hpS : ucpS l s kk = if ucpE s kk = 0 then (begL l s).take kk.toNat else [] := rfl
  obtain ⟨n, hn⟩ : ∃ n, l.length = n := ⟨_, rfl⟩
  have hall : begL (l.take n) s = begL l s := by rw [List.take_of_length_le (by rw [hn]; exact Nat.le_refl _)]
  obtain ⟨oe, hoe⟩ : ∃ z, ucpE s kk = z := ⟨_, rfl⟩
  obtain ⟨os, hos⟩ : ∃ z, ucpS l s kk = z := ⟨_, rfl⟩
  obtain ⟨er, her⟩ : ∃ z, uE s.data.toList = z := ⟨_, rfl⟩
  rw [hoe, her] at hpE
  rw [hos, hoe, ← hall] at hpS
  rw [her] at c1
  rw [hoe, hos]
  obtain ⟨f, hf⟩ : ∃ f, f = fun k => begL (l.take k) s := ⟨_, rfl⟩
  have hst : ∀ k x, l[k]? = some x → f (k + 1) = f k ++ (if preK s x.1 = true then [x] else []) := fun k x hx => by rw [hf]; exact begL_take k x hx
  have hf0 : f 0 = [] := by rw [hf]; rfl
  have hfn : begL (l.take n) s = f n := by rw [hf]
  have hfl : ∀ k, (f k).length ≤ 2000000 := fun k => by rw [hf]; exact Nat.le_trans (List.length_filter_le _ _) (by rw [List.length_take]; omega)
  rw [hfn] at hpS
  rw [hn] at hu hl ⊢
  have C1 := Lib.hid c1; have HU := Lib.hid hu; have HN := Lib.hid hn; have HST := Lib.hid hst; have HF0 := Lib.hid hf0; have HPS := Lib.hid hpS; have HFL := Lib.hid hfl
  clear c1 hu hn hst hf0 hfn hf hs hoe hos her hpS hall hfl
  by_cases he : er = 0
  · subst he
    rw [if_pos (by first | rfl | trivial)] at hpE
    by_cases hk : kk < 0 ∨ 1000 < kk
    · rw [if_pos hk] at hpE
      subst hpE
      have hS : os = [] := by rw [HPS.out, if_neg (by decide)]
      subst hS
      go_enter Tryd.func34, Tryd.ntmps34
      go_wp2_with fail
      refine C1.out.mono ?_
      rintro e w1 ⟨rfl, b1⟩
      have B1 := Lib.hid b1; clear b1
      by_cases hk2 : kk < 0
      · have hk3 : decide (kk < 0) = true := decide_eq_true hk2
        go_wp2
        go_ret2
        exact ⟨_, rfl, GRuns.nil_ _ _ _, B1.out⟩
      · have hk3 : decide (kk < 0) = false := decide_eq_false hk2
        have hk5 : 1000 < kk := hk.resolve_left hk2
        have hk4 : decide (1000 < kk) = true := decide_eq_true hk5
        go_wp2
        go_ret2
        exact ⟨_, rfl, GRuns.nil_ _ _ _, B1.out⟩
    · rw [if_neg hk] at hpE
      subst hpE
      have hk2 : ¬ kk < 0 := fun h => hk (.inl h)
      have hk3 : ¬ 1000 < kk := fun h => hk (.inr h)
      obtain ⟨K, rfl⟩ : ∃ K : Nat, kk = (K : Int) := ⟨kk.toNat, by omega⟩
      have hS : os = (f n).take K := by rw [HPS.out, if_pos (by first | rfl | trivial), Int.toNat_natCast]
      have HS := Lib.hid hS
      have hk4 : decide ((K : Int) < 0) = false := decide_eq_false hk2
      have hk5 : decide (1000 < (K : Int)) = false := decide_eq_false hk3
      clear hS hk
      obtain ⟨n1, hn1⟩ : ∃ z, w.heap.size = z := ⟨_, rfl⟩
      have HN1 := Lib.hid hn1
      go_enter Tryd.func34, Tryd.ntmps34
      go_wp2_with fail
      refine C1.out.mono ?_
      rintro e w1 ⟨rfl, b1⟩
      have B1 : Hid (Below n1 w w1) := Lib.hid (hn1 ▸ b1); clear b1 hn1
      go_wp2
      go_loopw [9, 25] (fun s9 s25 wr => ∃ (k m : Nat) (Av : Option Addr) (cv : Nat), s9 = .slice Av m cv ∧ s25 = .int .i64 (k : Int) ∧ k ≤ n ∧ Hid (((f k).take K).length = m) ∧ Hid (wr.ownsRow n1 72 2 (.slice Av m cv) m (gCells wrdCell ((f k).take K))) ∧ Hid (Below n1 w wr)) (fun _ s25 _ => n - (RowKit.intOf s25).toNat)
      case atStart => exact ⟨0, 0, none, 0, rfl, rfl, Nat.zero_le _, Lib.hid (by rw [HF0.out]; simp), Lib.hid (by rw [HF0.out, List.take_nil]; exact World.ownsRow_nil _ _ _ _), B1⟩
      case round =>
        obtain ⟨k, m, Av, cv, rfl, rfl, hkn, HM, HR, HB⟩ := hrel
        by_cases hj : k < n
        · have k1 : (k : Int) < (n : Int) := by omega
          obtain ⟨⟨p1, p2⟩, hp⟩ : ∃ p, l[k]? = some p := ⟨_, List.getElem?_eq_getElem (by rw [HN.out]; exact hj)⟩
          obtain ⟨b, o, rfl, _, hc⟩ := (HU.out.below (HN1.out.symm ▸ HB.out)).cells HN.out (by omega)
          obtain ⟨g0, g1⟩ := wrd_cells hc hp
          simp only at g0 g1
          have hn1w : n1 ≤ wr.heap.size := by have := HB.out.size; have := HN1.out; omega
          have hal := bel_one wr (.cells #[.string p1, .int .i64 p2] 72)
          obtain ⟨c0, c1⟩ := cells2_new wr (.string p1) (.int .i64 p2) 72
          have hszl : (wr.alloc (.cells #[.string p1, .int .i64 p2] 72)).heap.size = wr.heap.size + 1 := by simp
          have hst := HST.out k _ hp
          simp only at hst
          obtain ⟨s1, s2⟩ := comp_step (f k) (p1, p2) K
          rw [HM.out] at s1 s2
          have cb := fun w => ubegin_any p1 s w
          obtain ⟨pk, hpk⟩ : ∃ z, preK s p1 = z := ⟨_, rfl⟩
          simp only [hpk] at cb hst
          have hmb : m ≤ 2000000 := by have := HFL.out k; have h9 := HM.out; rw [List.length_take] at h9; omega
          obtain ⟨W1, hW1⟩ : ∃ z, wr.alloc (.cells #[.string p1, .int .i64 p2] 72) = z := ⟨_, rfl⟩
          rw [hW1] at hal c0 c1 hszl
          have hbn := HB.out.trans (hal.mono hn1w)
          have hr1 := own_below HR.out hal
          obtain ⟨v9, w9, hrun, hown9, hb9⟩ := append_wrd W1 n1 _ m _ hr1 (p1, p2) (by omega) hmb
          obtain ⟨A9, c9, e9⟩ := (GRuns.of_own (l := (f k).take K ++ [(p1, p2)]) wrd_ln (by rw [List.length_append, HM.out]; rfl) hown9).slice
          rw [List.length_append, HM.out] at e9
          change v9 = .slice A9 (m + 1) c9 at e9
          subst e9
          have CB := Lib.hid cb; have HW1 := Lib.hid hW1; have HRUN := Lib.hid hrun; have HR1 := Lib.hid hr1; have HBN := Lib.hid hbn
          have HOWN := Lib.hid hown9; have HB9 := Lib.hid (hbn.trans hb9)
          obtain ⟨B, hB⟩ : ∃ z, wr.heap.size = z := ⟨_, rfl⟩
          rw [hB] at c0 c1
          have HBB := Lib.hid hB
          clear hc hp hal hW1 cb hpk hr1 hrun hown9 hb9 hbn hB hszl hn1w
          cases pk
          · have hs2 : Hid (f (k + 1) = f k) := Lib.hid (by rw [hst, if_neg (by simp), List.append_nil])
            clear hst s1 s2
            go_wp2_with fail
            rw [HW1.out, HBB.out]
            refine (CB.out _).mono ?_
            rintro e w5 ⟨rfl, e5⟩
            obtain rfl := e5
            go_wp2
            exact ⟨⟨k + 1, m, Av, cv, rfl, by go_num, by omega, Lib.hid (by rw [hs2.out]; exact HM.out), Lib.hid (by rw [hs2.out]; exact HR1.out), HBN⟩, by simp [RowKit.intOf]; omega⟩
          · rw [if_pos (by first | rfl | trivial)] at hst
            by_cases hmK : m < K
            · have hs2 : Hid ((f (k + 1)).take K = (f k).take K ++ [(p1, p2)]) := Lib.hid (by rw [hst, s1 hmK])
              have j1 : (m : Int) < (K : Int) := by omega
              have j2 : decide ((m : Int) < (K : Int)) = true := decide_eq_true j1
              clear hst s1 s2
              go_wp2_with (first
                | (rw [HW1.out, HBB.out])
                | (go_at_call 57; refine (CB.out _).mono ?_; rintro e w5 ⟨rfl, e5⟩; obtain rfl := e5)
                | (at_builtin; refine wpList_append_run (.tmp 39) (.tmp 41) 22 _ _ _ _ HRUN.out rfl rfl rfl rfl ?_))
              exact ⟨⟨k + 1, m + 1, A9, c9, rfl, by go_num, by omega, Lib.hid (by rw [hs2.out, List.length_append, HM.out]; rfl), Lib.hid (by rw [hs2.out]; exact HOWN.out), HB9⟩, by simp [RowKit.intOf]; omega⟩
            · have hs2 : Hid ((f (k + 1)).take K = (f k).take K) := Lib.hid (by rw [hst, s2 hmK])
              have j1 : ¬ (m : Int) < (K : Int) := by omega
              have j2 : decide ((m : Int) < (K : Int)) = false := decide_eq_false j1
              clear hst s1 s2
              go_wp2_with (first
                | (rw [HW1.out, HBB.out])
                | (go_at_call 57; refine (CB.out _).mono ?_; rintro e w5 ⟨rfl, e5⟩; obtain rfl := e5))
              exact ⟨⟨k + 1, m, Av, cv, rfl, by go_num, by omega, Lib.hid (by rw [hs2.out]; exact HM.out), Lib.hid (by rw [hs2.out]; exact HR1.out), HBN⟩, by simp [RowKit.intOf]; omega⟩
        · obtain rfl : k = n := by omega
          have hfin := GRuns.of_own wrd_ln HM.out HR.out
          rw [← HS.out] at hfin
          have HF := Lib.hid hfin
          have HBF : Hid (Below w.heap.size w wr) := Lib.hid (HN1.out.symm ▸ HB.out)
          clear hfin
          go_wp2
          go_ret2
          exact ⟨_, rfl, HF.out, HBF.out⟩
  · rw [if_neg he] at hpE
    subst hpE
    have hS : os = [] := by rw [HPS.out, if_neg he]
    subst hS
    have h1 : (oe == 0) = false := by simpa using he
    have h2 : (oe != 0) = true := by simpa using he
    go_enter Tryd.func34, Tryd.ntmps34
    go_wp2_with fail
    refine C1.out.mono ?_
    rintro e w1 ⟨rfl, b1⟩
    have B1 := Lib.hid b1; clear b1
    go_wp2
    go_ret2
    exact ⟨_, rfl, GRuns.nil_ _ _ _, B1.out⟩
end Go.Proofs.YtljaibhhkjapmaaDoor

/- errataref11.better: whether a way is better than another one. -/
namespace Go.Proofs.YtljaibhhkjapmaaDoor
open Go.RowKit Go.Shelf
attribute [local go_sem] Oper.semAt_some
set_option linter.unusedSimpArgs false
set_option linter.unusedVariables false

theorem betF_step {a b : List ByteArray} {i : Nat} {x y : ByteArray} (hx : a[i]? = some x) (hy : b[i]? = some y) : betF (a.drop i) (b.drop i) = if x.size ≠ y.size then decide (y.size < x.size) else betF (a.drop (i + 1)) (b.drop (i + 1)) := by
  obtain ⟨ha, ea⟩ := List.getElem?_eq_some_iff.1 hx
  obtain ⟨hb, eb⟩ := List.getElem?_eq_some_iff.1 hy
  rw [List.drop_eq_getElem_cons ha, List.drop_eq_getElem_cons hb, ea, eb, betF]
set_option maxRecDepth 100000 in
set_option maxHeartbeats 8000000 in
theorem ubetter_any (u v : Value) (a b : List ByteArray) (w : World) (hu : GRuns txCell 1 w u a) (hv : GRuns txCell 1 w v b) (ha : a.length ≤ 1000) (hb : b.length ≤ 1000) :
    Calls Tryd.prog 62 #[u, v] w fun e w' => e = .returned (.bool (betB a b)) ∧ Below w.heap.size w w' := by
  have hB : betB a b = if a.length ≠ b.length then decide (a.length < b.length) else betF a b := rfl
  obtain ⟨res, hres⟩ : ∃ z, betB a b = z := ⟨_, rfl⟩
  rw [hres] at hB ⊢
  obtain ⟨A, c, eu⟩ := hu.slice
  obtain ⟨A2, c2, ev⟩ := hv.slice
  obtain ⟨n, hn⟩ : ∃ z, a.length = z := ⟨_, rfl⟩
  obtain ⟨m, hm⟩ : ∃ z, b.length = z := ⟨_, rfl⟩
  rw [hn] at eu ha hB
  rw [hm] at ev hb hB
  subst eu ev
  have HU := Lib.hid hu; have HV := Lib.hid hv; have HN := Lib.hid hn; have HM := Lib.hid hm; have HB := Lib.hid hB
  clear hu hv hn hm hB hres
  by_cases h0 : n = m
  rotate_left
  · have e1 : ((n : Int) == (m : Int)) = false := by simpa using (by omega : ¬ (n : Int) = (m : Int))
    have e2 : ((n : Int) != (m : Int)) = true := by simpa using (by omega : ¬ (n : Int) = (m : Int))
    by_cases h1 : n < m
    · have k1 : (n : Int) < (m : Int) := by omega
      have k2 : decide ((n : Int) < (m : Int)) = true := decide_eq_true k1
      have hr : Hid (res = true) := Lib.hid (by rw [HB.out, if_pos h0, decide_eq_true h1])
      go_enter Tryd.func62, Tryd.ntmps62
      go_wp2
      go_ret
      exact ⟨by rw [hr.out]; rfl, Below.refl _ _⟩
    · have k1 : ¬ (n : Int) < (m : Int) := by omega
      have k2 : decide ((n : Int) < (m : Int)) = false := decide_eq_false k1
      have hr : Hid (res = false) := Lib.hid (by rw [HB.out, if_pos h0, decide_eq_false h1])
      go_enter Tryd.func62, Tryd.ntmps62
      go_wp2
      go_ret
      exact ⟨by rw [hr.out]; rfl, Below.refl _ _⟩
  subst h0
  have hr0 : Hid (res = betF (a.drop 0) (b.drop 0)) := Lib.hid (by rw [HB.out, if_neg (by omega)]; rfl)
  have e2 : ((n : Int) != (n : Int)) = false := by simp
  clear HB
  go_enter Tryd.func62, Tryd.ntmps62
  go_wp2
  go_loopw [18] (fun s18 wr => ∃ k : Nat, k ≤ n ∧ s18 = .int .i64 k ∧ Hid (res = betF (a.drop k) (b.drop k)) ∧ Hid (Below w.heap.size w wr)) (fun s18 _ => n - (RowKit.intOf s18).toNat)
  case atStart => exact ⟨0, Nat.zero_le _, rfl, hr0, Lib.hid (Below.refl _ _)⟩
  case round =>
    obtain ⟨k, hkn, rfl, HR, HBw⟩ := hrel
    by_cases hk : k < n
    · have k1 : (k : Int) < (n : Int) := by omega
      obtain ⟨x, hx⟩ : ∃ x, a[k]? = some x := ⟨_, List.getElem?_eq_getElem (by rw [HN.out]; exact hk)⟩
      obtain ⟨y, hy⟩ : ∃ y, b[k]? = some y := ⟨_, List.getElem?_eq_getElem (by rw [HM.out]; exact hk)⟩
      obtain ⟨b1, o1, rfl, _, hc1⟩ := (HU.out.below HBw.out).cells HN.out (by omega)
      obtain ⟨b2, o2, rfl, _, hc2⟩ := (HV.out.below HBw.out).cells HM.out (by omega)
      have g0 := hc1 k _ hx 0 _ rfl
      have g1 := hc2 k _ hy 0 _ rfl
      simp only [Nat.mul_one, Nat.add_zero] at g0 g1
      have hst := betF_step hx hy
      have hr1 := HR.out
      rw [hst] at hr1
      clear hc1 hc2 hx hy hst HR
      by_cases hs : x.size = y.size
      · have e1 : ((x.size : Int) == (y.size : Int)) = true := by simpa using (by omega : (x.size : Int) = (y.size : Int))
        have e3 : ((x.size : Int) != (y.size : Int)) = false := by simpa using (by omega : (x.size : Int) = (y.size : Int))
        rw [if_neg (by omega)] at hr1
        have HR1 := Lib.hid hr1
        clear hr1 hs
        go_wp2
        go_quiet (fail)
        go_wp2
        exact ⟨⟨k + 1, by omega, by go_num, HR1, Lib.hid (below_draws HBw.out _)⟩, by simp [RowKit.intOf]; omega⟩
      · have e1 : ((x.size : Int) == (y.size : Int)) = false := by simpa using (by omega : ¬ (x.size : Int) = (y.size : Int))
        have e3 : ((x.size : Int) != (y.size : Int)) = true := by simpa using (by omega : ¬ (x.size : Int) = (y.size : Int))
        rw [if_pos hs] at hr1
        by_cases hl : y.size < x.size
        · rw [decide_eq_true hl] at hr1
          subst hr1
          have k5 : (y.size : Int) < (x.size : Int) := by omega
          have k6 : decide ((y.size : Int) < (x.size : Int)) = true := decide_eq_true k5
          clear hs hl
          go_wp2
          go_quiet (fail)
          go_wp2
          go_quiet (fail)
          go_wp2
          go_ret
          exact ⟨rfl, below_draws (below_draws HBw.out _) _⟩
        · rw [decide_eq_false hl] at hr1
          subst hr1
          have k5 : ¬ (y.size : Int) < (x.size : Int) := by omega
          have k6 : decide ((y.size : Int) < (x.size : Int)) = false := decide_eq_false k5
          have k7 : decide (y.size < x.size) = false := decide_eq_false hl
          clear hs hl
          go_wp2
          go_quiet (fail)
          go_wp2
          go_quiet (fail)
          go_wp2
          go_ret
          exact ⟨rfl, below_draws (below_draws HBw.out _) _⟩
    · obtain rfl : k = n := by omega
      have hr1 : Hid (res = false) := Lib.hid (by rw [HR.out, List.drop_of_length_le (by rw [HN.out]; exact Nat.le_refl _)]; rfl)
      clear HR
      go_wp2
      go_ret
      exact ⟨by rw [hr1.out]; rfl, HBw.out⟩
end Go.Proofs.YtljaibhhkjapmaaDoor

/- Layer 11, plain: what the longest words and the parts of texts are, as texts. -/
namespace Go.Proofs.YtljaibhhkjapmaaDoor
open Go.RowKit Go.Shelf
set_option linter.unusedSimpArgs false
set_option linter.unusedVariables false

theorem wfE_in {X : List Wrd} (hn : wisS X = 0) {x : Wrd} (hx : x ∈ X) : wfE X x.1 = 0 := by
  have h1 := frq_pos (frB_of (wisS_facts hn).1) hx
  unfold wfE
  rw [if_pos hn, if_neg (by omega)]
theorem uE_word {X : List Wrd} (hn : wisS X = 0) {x : Wrd} (hx : x ∈ X) : uE x.1.data.toList = 0 ∧ uS x.1.data.toList = rnK x.1 ∧ (rnK x.1).length ≤ 64 := by
  have hm : rnK x.1 ∈ rnW X := List.mem_map.2 ⟨x, hx, rfl⟩
  obtain ⟨_, h2, _⟩ := rnW_facts hn _ hm
  have h1 : uE x.1.data.toList = 0 := by
    unfold uE
    rw [valid_of hn hx]
    simp only [if_true]
    exact if_neg (show ¬ 64 < (rnK x.1).length by omega)
  exact ⟨h1, by rw [uS, if_pos h1]; rfl, h2⟩
theorem lng_facts {X : List Wrd} (hn : wisS X = 0) (s : ByteArray) : (uE s.data.toList ≠ 0 ∧ uE s.data.toList ≠ 10 ∧ ulE (rnW X) s.data.toList = uE s.data.toList ∧ ulS (rnW X) s.data.toList = ⟨#[]⟩) ∨
    (ulE (rnW X) s.data.toList = 10 ∧ ulS (rnW X) s.data.toList = ⟨#[]⟩ ∧ ∀ x ∈ X, preK x.1 s = true → x.1.size ≤ 0) ∨
    (ulE (rnW X) s.data.toList = 0 ∧ wfE X (ulS (rnW X) s.data.toList) = 0 ∧ preK (ulS (rnW X) s.data.toList) s = true ∧ ∀ x ∈ X, preK x.1 s = true → x.1.size ≤ (ulS (rnW X) s.data.toList).size) := by
  by_cases he : uE s.data.toList = 0
  · right
    obtain ⟨hv, hl, hus⟩ := uE_ok he
    have hlg := lgD_is hn hv
    have hsp := lgD_spec s _ X rfl
    have hS : ulS (rnW X) s.data.toList = lgD X s := by rw [ulS, if_pos he, hus, hlg]; rfl
    have hE : ulE (rnW X) s.data.toList = if lngN (rnW X) (rnK s) = 0 then 10 else 0 := by rw [ulE, if_pos he, hus]; rfl
    rw [hS, hE]
    rcases lngN_spec (no_empty hn) (rnK s) with ⟨e, h1⟩ | ⟨e, h1, h2, h3⟩
    · left
      rw [e, List.take_zero] at hlg
      have hz : lgD X s = ⟨#[]⟩ := hlg
      refine ⟨if_pos e, hz, fun x hx hp => ?_⟩
      have := hsp.2 x hx hp
      rw [hz] at this
      exact this
    · right
      obtain ⟨b, hb, eb⟩ := List.mem_map.1 h2
      have e2 : lgD X s = b.1 := by rw [hlg, ← eb, mkT_rn (valid_of hn hb)]
      refine ⟨if_neg (by omega), by rw [e2]; exact wfE_in hn hb, ?_, hsp.2⟩
      rw [e2]
      have hlen : (rnK b.1).length = lngN (rnW X) (rnK s) := by rw [eb, List.length_take]; omega
      exact (pre_take hn hv hb).2 ⟨by omega, by rw [hlen]; exact eb.symm⟩
  · left
    refine ⟨he, fun h => ?_, by rw [ulE, if_neg he], by rw [ulS, if_neg he]⟩
    unfold uE at h
    split at h
    · split at h <;> cases h
    · cases h
theorem lng_self {X : List Wrd} (hn : wisS X = 0) {x : Wrd} (hx : x ∈ X) : ulE (rnW X) x.1.data.toList = 0 ∧ ulS (rnW X) x.1.data.toList = x.1 := by
  obtain ⟨h1, h2, h3⟩ := uE_word hn hx
  have hm : rnK x.1 ∈ rnW X := List.mem_map.2 ⟨x, hx, rfl⟩
  have hl := lngN_word (no_empty hn) hm
  have hne : (rnK x.1).length ≠ 0 := fun h => no_empty hn (by rw [← List.eq_nil_of_length_eq_zero h]; exact hm)
  refine ⟨by rw [ulE, if_pos h1, h2, if_neg (by rw [hl]; exact hne)], ?_⟩
  rw [ulS, if_pos h1, h2, hl, List.take_length, mkT_rn (valid_of hn hx)]
theorem spl_self {X : List Wrd} (hn : wisS X = 0) {x : Wrd} (hx : x ∈ X) : uspE (rnW X) x.1.data.toList = 0 ∧ uspS (rnW X) x.1.data.toList = [x.1] := by
  obtain ⟨h1, h2, h3⟩ := uE_word hn hx
  have hm : rnK x.1 ∈ rnW X := List.mem_map.2 ⟨x, hx, rfl⟩
  have hc := cut_word (no_empty hn) hm h3
  refine ⟨by rw [uspE, if_pos h1, h2, hc]; rfl, ?_⟩
  rw [uspS, if_pos h1, h2]
  unfold spl
  rw [hc]
  show [mkT ((rnK x.1).take (cut (rnW X) (rnK x.1)).2)] = [x.1]
  rw [hc, List.take_length, mkT_rn (valid_of hn hx)]
theorem flat_mkT (ws : List (List Int)) : ((ws.map mkT).map (fun b => b.data.toList)).flatten = encL ws.flatten := by
  induction ws with
  | nil => rfl
  | cons x ws ih => simp only [List.map_cons, List.flatten_cons, ih, mkT_data, encL_append]
theorem spl_of {X : List Wrd} (hn : wisS X = 0) (s : ByteArray) (h0 : uspE (rnW X) s.data.toList = 0) : uE s.data.toList = 0 ∧ (cut (rnW X) (rnK s)).1 ≠ 65 ∧ (rnK s).length ≤ 64 ∧ uspS (rnW X) s.data.toList = (spl (rnW X) (rnK s)).map mkT := by
  by_cases he : uE s.data.toList = 0
  · obtain ⟨hv, hl, hus⟩ := uE_ok he
    rw [uspE, if_pos he, hus] at h0
    refine ⟨he, fun h => ?_, hl, by rw [uspS, if_pos he, hus]; rfl⟩
    rw [if_pos (show (cut (rnW X) (items s.data.toList)).1 = 65 from h)] at h0
    cases h0
  · rw [uspE, if_neg he] at h0
    exact absurd h0 he
/-- Parts are words, one behind the other the text. -/
theorem spl_text {X : List Wrd} (hn : wisS X = 0) (s : ByteArray) (h0 : uspE (rnW X) s.data.toList = 0) : ((uspS (rnW X) s.data.toList).map (fun b => b.data.toList)).flatten = s.data.toList ∧ (∀ p ∈ uspS (rnW X) s.data.toList, wfE X p = 0) ∧ (uspS (rnW X) s.data.toList).length ≤ 64 := by
  obtain ⟨he, hc, hl, hS⟩ := spl_of hn s h0
  obtain ⟨h1, h2⟩ := spl_facts (no_empty hn) _ (rnK s) rfl hl hc
  have hlen := spl_len hc
  have hcl := cut_len (no_empty hn) _ (rnK s) rfl
  rw [hS]
  refine ⟨by rw [flat_mkT, h1]; exact enc_items _ (uE_ok he).1, fun p hp => ?_, by rw [List.length_map, hlen]; omega⟩
  obtain ⟨y, hy, rfl⟩ := List.mem_map.1 hp
  obtain ⟨b, hb, e⟩ := List.mem_map.1 (h2 y hy)
  rw [← e, mkT_rn (valid_of hn hb)]
  exact wfE_in hn hb
/-- Two texts that are parted are parted together, into no more. -/
theorem spl_join {X : List Wrd} (hn : wisS X = 0) (s t : ByteArray) (h1 : uspE (rnW X) s.data.toList = 0) (h2 : uspE (rnW X) t.data.toList = 0) : uspE (rnW X) (s ++ t).data.toList = 5 ∨ (uspE (rnW X) (s ++ t).data.toList = 0 ∧ (uspS (rnW X) (s ++ t).data.toList).length ≤ (uspS (rnW X) s.data.toList).length + (uspS (rnW X) t.data.toList).length) := by
  obtain ⟨a1, a2, a3, a4⟩ := spl_of hn s h1
  obtain ⟨b1, b2, b3, b4⟩ := spl_of hn t h2
  have hd : (s ++ t).data.toList = s.data.toList ++ t.data.toList := by rw [ByteArray.data_append, Array.toList_append]
  obtain ⟨j1, j2⟩ := items_join s.data.toList t.data.toList (uE_ok a1).1
  have hv : Lib.validD (s ++ t).data.toList = true := by rw [hd, j2]; exact (uE_ok b1).1
  have hr : rnK (s ++ t) = rnK s ++ rnK t := by show items (s ++ t).data.toList = _; rw [hd, j1]; rfl
  by_cases hl : 64 < (rnK (s ++ t)).length
  · left
    have he : uE (s ++ t).data.toList = 5 := by
      unfold uE
      rw [hv]
      simp only [if_true]
      exact if_pos hl
    rw [uspE, he, if_neg (by decide)]
  · right
    have he : uE (s ++ t).data.toList = 0 := by
      unfold uE
      rw [hv]
      simp only [if_true]
      exact if_neg hl
    have hus := (uE_ok he).2.2
    obtain ⟨f1, f2⟩ := spl_facts (no_empty hn) _ (rnK s) rfl a3 a2
    obtain ⟨g1, g2⟩ := spl_facts (no_empty hn) _ (rnK t) rfl b3 b2
    have hfw := cut_few (no_empty hn) (spl (rnW X) (rnK s) ++ spl (rnW X) (rnK t)) (fun x hx => (List.mem_append.1 hx).elim (f2 x) (g2 x)) (by rw [List.flatten_append, f1, g1, ← hr]; omega)
    rw [List.flatten_append, f1, g1, ← hr, List.length_append] at hfw
    have e1 : uspE (rnW X) (s ++ t).data.toList = 0 := by
      rw [uspE, if_pos he, hus, if_neg]
      exact hfw.2
    obtain ⟨_, c2, _, c4⟩ := spl_of hn (s ++ t) e1
    refine ⟨e1, ?_⟩
    rw [c4, a4, b4, List.length_map, List.length_map, List.length_map, spl_len c2]
    exact hfw.1
end Go.Proofs.YtljaibhhkjapmaaDoor

