/- A text's pieces as rows of runes; its tokens; texts in the tokens' places: plain. -/
import Derived.Test.YtephhejfkihhgaaDoorTAlive
namespace Go.Proofs.YtephhejfkihhgaaDoor
open Go.Lib

/-- A string of runes. -/
def mkS (xs : List Int) : ByteArray := ⟨(encL xs).toArray⟩
theorem mkS_data (xs : List Int) : (mkS xs).data.toList = encL xs := by simp [mkS]
theorem mkS_items (s : ByteArray) (hv : validD s.data.toList = true) : mkS (items s.data.toList) = s := str_ext (by rw [mkS_data, enc_items _ hv])

/-- Rows of runes of one sort each: a row under way, of sort b, with cur so far. -/
def pcs (b : Bool) (cur : List Int) : List Int → List (Bool × List Int)
  | [] => [(b, cur)]
  | r :: xs => if letterB r = b then pcs b (cur ++ [r]) xs else (b, cur) :: pcs (letterB r) [r] xs
def pieces : List Int → List (Bool × List Int)
  | [] => []
  | r :: xs => pcs (letterB r) [r] xs
def cat (ps : List (Bool × List Int)) : List Int := ps.flatMap (·.2)
theorem cat_cons (p : Bool × List Int) (ps : List (Bool × List Int)) : cat (p :: ps) = p.2 ++ cat ps := rfl
/-- Where rows stand that begin at f. -/
def offs (f : Nat) : List (Bool × List Int) → List Sp
  | [] => []
  | p :: ps => ((f : Int), ((f + (encL p.2).length : Nat) : Int), p.1) :: offs (f + (encL p.2).length) ps
theorem offs_len (f : Nat) (ps : List (Bool × List Int)) : (offs f ps).length = ps.length := by
  induction ps generalizing f with
  | nil => rfl
  | cons p ps ih => simp [offs, ih]

theorem sp_offs (b : Bool) (xs : List Int) : ∀ (f : Nat) (cur : List Int), sp f (f + (encL cur).length) b xs = offs f (pcs b cur xs) := by
  induction xs generalizing b with
  | nil => intro f cur; simp [sp, pcs, offs]
  | cons r xs ih =>
    intro f cur
    unfold sp pcs
    by_cases h : letterB r = b
    · rw [if_pos h, if_pos h, ← ih b f (cur ++ [r]), encL_snoc, Nat.add_assoc]
    · rw [if_neg h, if_neg h]
      simp only [offs]
      rw [← ih (letterB r) (f + (encL cur).length) [r]]
      have : (encL [r]).length = rl r := by simp [encL, rl]
      rw [this]
theorem spans_offs (xs : List Int) : ∀ a, spansFrom a xs = offs a (pieces xs) := by
  intro a
  cases xs with
  | nil => rfl
  | cons r xs =>
    show sp a (a + rl r) (letterB r) xs = offs a (pcs (letterB r) [r] xs)
    rw [← sp_offs]
    have : (encL [r]).length = rl r := by simp [encL, rl]
    rw [this]
theorem cat_pcs (b : Bool) (xs : List Int) : ∀ cur, cat (pcs b cur xs) = cur ++ xs := by
  induction xs generalizing b with
  | nil => intro cur; simp [pcs, cat]
  | cons r xs ih =>
    intro cur
    unfold pcs
    by_cases h : letterB r = b
    · rw [if_pos h, ih]; simp
    · rw [if_neg h, cat_cons, ih]; simp
theorem cat_pieces (xs : List Int) : cat (pieces xs) = xs := by
  cases xs with
  | nil => rfl
  | cons r xs => show cat (pcs _ _ _) = _; rw [cat_pcs]; rfl

/-- Tokens of runes: cur so far. -/
def tk (cur : List Int) : List Int → List (List Int)
  | [] => if cur = [] then [] else [cur]
  | r :: xs => if letterB r = true then tk (cur ++ [r]) xs else (if cur = [] then [] else [cur]) ++ tk [] xs
theorem tk_cons (cur : List Int) (r : Int) (xs : List Int) : tk cur (r :: xs) = if letterB r = true then tk (cur ++ [r]) xs else (if cur = [] then [] else [cur]) ++ tk [] xs := rfl
theorem tk_pcs (b : Bool) (xs : List Int) : ∀ cur, (b = true → cur ≠ []) → ((pcs b cur xs).filter (·.1)).map (·.2) = if b then tk cur xs else tk [] xs := by
  induction xs generalizing b with
  | nil =>
    intro cur hc
    cases b
    · simp [pcs, tk]
    · simp [pcs, tk, hc rfl]
  | cons r xs ih =>
    intro cur hc
    unfold pcs
    by_cases h : letterB r = b
    · rw [if_pos h, ih b (cur ++ [r]) (fun _ => by simp)]
      cases b
      · simp [tk, h]
      · simp [tk, h]
    · rw [if_neg h]
      cases b
      · have h1 : letterB r = true := by simpa using h
        rw [h1]
        simp only [List.filter_cons, Bool.false_eq_true, if_false]
        rw [ih true [r] (fun _ => by simp)]
        simp [tk, h1]
      · have h1 : letterB r = false := by simpa using h
        rw [h1]
        simp only [List.filter_cons, if_true, List.map_cons]
        rw [ih false [r] (fun h => by cases h)]
        simp [tk, h1, hc rfl]
theorem tk_pieces (xs : List Int) : ((pieces xs).filter (·.1)).map (·.2) = tk [] xs := by
  cases xs with
  | nil => rfl
  | cons r xs =>
    show ((pcs (letterB r) [r] xs).filter (·.1)).map (·.2) = _
    rw [tk_pcs _ _ _ (fun _ => by simp)]
    cases h : letterB r <;> simp [tk, h]

theorem tk_sep (r : Int) (hr : letterB r = false) (b : List Int) (a : List Int) : ∀ cur, tk cur (a ++ r :: b) = tk cur a ++ tk [] b := by
  induction a with
  | nil => intro cur; simp [tk, hr]
  | cons q a ih =>
    intro cur
    rw [List.cons_append, tk_cons, tk_cons]
    by_cases h : letterB q = true
    · rw [if_pos h, if_pos h, ih]
    · rw [if_neg h, if_neg h, ih]; simp
theorem tk_letters (w : List Int) (hw : ∀ r ∈ w, letterB r = true) (ys : List Int) : ∀ cur, tk cur (w ++ ys) = tk (cur ++ w) ys := by
  induction w with
  | nil => intro cur; simp
  | cons q w ih =>
    intro cur
    rw [List.cons_append]
    show (if letterB q = true then _ else _) = _
    rw [if_pos (hw q (by simp)), ih (fun r hr => hw r (by simp [hr]))]; simp
theorem tk_word (w : List Int) (hne : w ≠ []) (hw : ∀ r ∈ w, letterB r = true) : tk [] w = [w] := by
  have := tk_letters w hw [] []
  rw [List.append_nil] at this
  rw [this]; simp [tk, hne]
theorem tk_signs (o : List Int) (ho : ∀ r ∈ o, letterB r = false) (ys : List Int) : tk [] (o ++ ys) = tk [] ys := by
  induction o with
  | nil => rfl
  | cons q o ih =>
    rw [List.cons_append]
    show (if letterB q = true then _ else _) = _
    rw [if_neg (by rw [ho q (by simp)]; simp)]
    simpa using ih (fun r hr => ho r (by simp [hr]))
theorem tk_end (o : List Int) (ho : ∀ r ∈ o, letterB r = false) (cur : List Int) : tk cur o = if cur = [] then [] else [cur] := by
  cases o with
  | nil => rfl
  | cons q o =>
    show (if letterB q = true then _ else _) = _
    rw [if_neg (by rw [ho q (by simp)]; simp)]
    have := tk_signs o (fun r hr => ho r (by simp [hr])) []
    rw [List.append_nil] at this
    rw [this]; simp [tk]

/-- The texts of the tokens among rows that stand from f on. -/
theorem tokS_offs (s : ByteArray) (ps : List (Bool × List Int)) : ∀ f, s.data.toList.drop f = encL (cat ps) → tokS s (offs f ps) = ((ps.filter (·.1)).map (·.2)).map mkS := by
  induction ps with
  | nil => intro f _; rfl
  | cons p ps ih =>
    intro f h
    rw [cat_cons, encL_append] at h
    have h2 : s.data.toList.drop (f + (encL p.2).length) = encL (cat ps) := by rw [← List.drop_drop, h, List.drop_left]
    have e : s.extract f (f + (encL p.2).length) = mkS p.2 := str_ext (by
      rw [mkS_data, Lib.extract_data, Nat.add_sub_cancel_left, h, List.take_left])
    have hr := ih _ h2
    unfold tokS at hr ⊢
    simp only [offs]
    cases hb : p.1
    · simp [hb, hr]
    · simp only [List.filter_cons, hb, if_true, List.map_cons, hr]
      rw [Int.toNat_natCast, Int.toNat_natCast, e]
/-- A document's tokens. -/
theorem docTok_tk (s : ByteArray) (hd : docErr s.data.toList = 0) : docTokS s = (tk [] (items s.data.toList)).map mkS := by
  have hv := (doc_ok s hd).2
  unfold docTokS
  rw [if_pos hd]
  unfold spansL
  rw [spans_offs, tokS_offs s _ 0 (by rw [cat_pieces, enc_items _ hv]; rfl), tk_pieces]
theorem doc_of (s : ByteArray) (h : s.size ≤ 1048576) (hv : validD s.data.toList = true) : docErr s.data.toList = 0 := by
  unfold docErr; rw [← Lib.size_eq, if_neg (by omega), hv]; rfl
theorem doc_bad (s : ByteArray) (h : s.size ≤ 1048576) (hv : validD s.data.toList = false) : docErr s.data.toList = 3 := by
  unfold docErr; rw [← Lib.size_eq, if_neg (by omega), hv]; rfl
theorem docTok_none (s : ByteArray) (h : docErr s.data.toList ≠ 0) : docTokS s = [] := by unfold docTokS; rw [if_neg h]

/-- Rows that stand by turns, behind one of sort b. -/
def Alt : Bool → List (Bool × List Int) → Prop
  | _, [] => True
  | b, p :: ps => p.1 ≠ b ∧ p.2 ≠ [] ∧ (∀ r ∈ p.2, letterB r = p.1) ∧ Alt p.1 ps
theorem pcs_run (b : Bool) (run ys : List Int) (h : ∀ r ∈ run, letterB r = b) : ∀ cur, pcs b cur (run ++ ys) = pcs b (cur ++ run) ys := by
  induction run with
  | nil => intro cur; simp
  | cons r run ih =>
    intro cur
    rw [List.cons_append]
    show (if letterB r = b then _ else _) = _
    rw [if_pos (h r (by simp)), ih (fun q hq => h q (by simp [hq]))]; simp
theorem pcs_alt (ps : List (Bool × List Int)) : ∀ b cur, Alt b ps → pcs b cur (cat ps) = (b, cur) :: ps := by
  induction ps with
  | nil => intro b cur _; rfl
  | cons p ps ih =>
    intro b cur ⟨h1, h2, h3, h4⟩
    obtain ⟨pb, pr⟩ := p
    cases pr with
    | nil => exact absurd rfl h2
    | cons r run =>
      rw [cat_cons]
      show (if letterB r = b then _ else _) = _
      have hr : letterB r = pb := h3 r (by simp)
      rw [if_neg (by rw [hr]; exact h1), hr]
      show (b, cur) :: pcs pb [r] (run ++ cat ps) = _
      rw [pcs_run pb run _ (fun q hq => h3 q (by simp [hq])), ih pb _ h4]; rfl
/-- Rows that stand by turns are the pieces of what they make together. -/
def AltAll (ps : List (Bool × List Int)) : Prop := match ps with | [] => True | p :: ps => p.2 ≠ [] ∧ (∀ r ∈ p.2, letterB r = p.1) ∧ Alt p.1 ps
theorem pieces_alt (ps : List (Bool × List Int)) (h : AltAll ps) : pieces (cat ps) = ps := by
  cases ps with
  | nil => rfl
  | cons p ps =>
    obtain ⟨h2, h3, h4⟩ := h
    obtain ⟨pb, pr⟩ := p
    cases pr with
    | nil => exact absurd rfl h2
    | cons r run =>
      rw [cat_cons]
      show pcs (letterB r) [r] (run ++ cat ps) = _
      have hr : letterB r = pb := h3 r (by simp)
      rw [hr, pcs_run pb run _ (fun q hq => h3 q (by simp [hq])), pcs_alt ps pb _ h4]; rfl
theorem alt_pcs (xs : List Int) : ∀ b cur, ∃ pre ps, pcs b cur xs = (b, cur ++ pre) :: ps ∧ (∀ r ∈ pre, letterB r = b) ∧ Alt b ps := by
  induction xs with
  | nil => intro b cur; exact ⟨[], [], by simp [pcs], by simp, trivial⟩
  | cons r xs ih =>
    intro b cur
    unfold pcs
    by_cases h : letterB r = b
    · rw [if_pos h]
      obtain ⟨pre, ps, e, h1, h2⟩ := ih b (cur ++ [r])
      exact ⟨r :: pre, ps, by rw [e]; simp, fun q hq => by rcases List.mem_cons.1 hq with rfl | hq; exact h; exact h1 q hq, h2⟩
    · rw [if_neg h]
      obtain ⟨pre, ps, e, h1, h2⟩ := ih (letterB r) [r]
      refine ⟨[], (letterB r, [r] ++ pre) :: ps, by rw [e]; simp, by simp, h, by simp, ?_, h2⟩
      intro q hq
      rcases List.mem_append.1 hq with hq | hq
      · simp at hq; rw [hq]
      · exact h1 q hq
theorem alt_pieces (xs : List Int) : AltAll (pieces xs) := by
  cases xs with
  | nil => trivial
  | cons r xs =>
    show AltAll (pcs (letterB r) [r] xs)
    obtain ⟨pre, ps, e, h1, h2⟩ := alt_pcs xs (letterB r) [r]
    rw [e]
    refine ⟨by simp, ?_, h2⟩
    intro q hq
    rcases List.mem_append.1 hq with hq | hq
    · simp at hq; rw [hq]
    · exact h1 q hq
/-- Other runes in the tokens' places. -/
def repl (w : List Int) (p : Bool × List Int) : Bool × List Int := if p.1 then (true, w) else p
theorem alt_repl (w : List Int) (hne : w ≠ []) (hw : ∀ r ∈ w, letterB r = true) (ps : List (Bool × List Int)) : ∀ b, Alt b ps → Alt b (ps.map (repl w)) := by
  induction ps with
  | nil => intro b _; trivial
  | cons p ps ih =>
    intro b ⟨h1, h2, h3, h4⟩
    obtain ⟨pb, pr⟩ := p
    cases pb
    · exact ⟨h1, h2, h3, ih _ h4⟩
    · exact ⟨h1, hne, hw, ih _ h4⟩
theorem altAll_repl (w : List Int) (hne : w ≠ []) (hw : ∀ r ∈ w, letterB r = true) (ps : List (Bool × List Int)) (h : AltAll ps) : AltAll (ps.map (repl w)) := by
  cases ps with
  | nil => trivial
  | cons p ps =>
    obtain ⟨h2, h3, h4⟩ := h
    obtain ⟨pb, pr⟩ := p
    cases pb
    · exact ⟨h2, h3, alt_repl w hne hw ps _ h4⟩
    · exact ⟨hne, hw, alt_repl w hne hw ps _ h4⟩

/-- Join, piece by piece. -/
def jn (s : ByteArray) : List Sp → List ByteArray → List UInt8
  | [], _ => []
  | p :: l, ts => if p.2.2 then (ts.getD 0 ⟨#[]⟩).data.toList ++ jn s l ts.tail else (s.extract p.1.toNat p.2.1.toNat).data.toList ++ jn s l ts
theorem jn_cons (s : ByteArray) (p : Sp) (l : List Sp) (ts : List ByteArray) : jn s (p :: l) ts = if p.2.2 then (ts.getD 0 ⟨#[]⟩).data.toList ++ jn s l ts.tail else (s.extract p.1.toNat p.2.1.toNat).data.toList ++ jn s l ts := rfl
theorem cnt_cons (p : Sp) (l : List Sp) (k : Nat) : cnt (p :: l) (k + 1) = (if p.2.2 then 1 else 0) + cnt l k := by
  unfold cnt
  rw [List.take_succ_cons]
  cases h : p.2.2 <;> simp [h] <;> omega
theorem part_cons (s : ByteArray) (p : Sp) (l : List Sp) (ts : List ByteArray) (k : Nat) : partS s (p :: l) ts (k + 1) = partS s l (if p.2.2 then ts.tail else ts) k := by
  unfold partS
  rw [List.getD_cons_succ, cnt_cons]
  cases h : p.2.2
  · simp
  · simp only [if_true]
    rw [show 1 + cnt l k = cnt l k + 1 by omega]
    cases ts with
    | nil => simp
    | cons t ts => simp
theorem join_cons (s : ByteArray) (p : Sp) (l : List Sp) (ts : List ByteArray) (k : Nat) : joinP s (p :: l) ts (k + 1) = (partS s (p :: l) ts 0).data.toList ++ joinP s l (if p.2.2 then ts.tail else ts) k := by
  induction k with
  | zero => simp [joinP]
  | succ k ih =>
    show joinP s (p :: l) ts (k + 1) ++ (partS s (p :: l) ts (k + 1)).data.toList = _
    rw [ih, part_cons]; simp [joinP]
theorem join_jn (s : ByteArray) (l : List Sp) : ∀ ts, joinP s l ts l.length = jn s l ts := by
  induction l with
  | nil => intro ts; rfl
  | cons p l ih =>
    intro ts
    rw [List.length_cons, join_cons, ih, jn_cons]
    have h0 : partS s (p :: l) ts 0 = if p.2.2 then ts.getD 0 ⟨#[]⟩ else s.extract p.1.toNat p.2.1.toNat := rfl
    rw [h0]
    cases h : p.2.2 <;> simp
/-- Texts in the tokens' places, as rows of runes. -/
theorem jn_offs (s : ByteArray) (g : List Int → List Int) (ps : List (Bool × List Int)) : ∀ f, s.data.toList.drop f = encL (cat ps) →
    jn s (offs f ps) ((ps.filter (·.1)).map (fun p => mkS (g p.2))) = encL (cat (ps.map (fun p => if p.1 then (true, g p.2) else p))) := by
  induction ps with
  | nil => intro f _; rfl
  | cons p ps ih =>
    intro f h
    rw [cat_cons, encL_append] at h
    have h2 : s.data.toList.drop (f + (encL p.2).length) = encL (cat ps) := by rw [← List.drop_drop, h, List.drop_left]
    have e : s.extract f (f + (encL p.2).length) = mkS p.2 := str_ext (by
      rw [mkS_data, Lib.extract_data, Nat.add_sub_cancel_left, h, List.take_left])
    have hr := ih _ h2
    simp only [offs, jn, List.map_cons, cat_cons]
    cases hb : p.1
    · simp only [Bool.false_eq_true, if_false, List.filter_cons, hb]
      rw [hr, Int.toNat_natCast, Int.toNat_natCast, e, mkS_data, encL_append]
    · simp only [if_true, List.filter_cons, hb, List.map_cons, List.getD_cons_zero, List.tail_cons]
      rw [hr, mkS_data, encL_append]
end Go.Proofs.YtephhejfkihhgaaDoor
