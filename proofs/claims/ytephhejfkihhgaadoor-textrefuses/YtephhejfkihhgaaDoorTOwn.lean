/- Stores into a row of the call's own; a text with other texts in its tokens' places. -/
import Derived.Test.YtephhejfkihhgaaDoorTLaw
namespace Go.Proofs.YtephhejfkihhgaaDoor
open Go.RowKit Go.Shelf

theorem take_set {α : Type} (l : List α) (m j : Nat) (u : α) (h : j < m) : (l.set j u).take m = (l.take m).set j u := by
  apply List.ext_getElem?
  intro i
  rw [List.getElem?_take, List.getElem?_set, List.getElem?_set, List.getElem?_take, List.length_take]
  by_cases hi : i < m
  · simp only [hi, if_true]
    by_cases hij : j = i
    · subst hij
      have hm : (j < min m l.length) = (j < l.length) := propext (by omega)
      simp [hm]
    · simp [hij]
  · simp only [hi, if_false]
    rw [if_neg (by omega)]
/-- A store into a row of the call's own. -/
theorem own_set {w : World} {base : Nat} {e : TypeId} {size g cap n : Nat} {xs : List Value} (h : w.ownsRow base e size (.slice (some ⟨g, 0, none⟩) n cap) n xs) (j : Nat) (hj : j < n * size) (u : Value) :
    (w.setCell ⟨g, j, none⟩ u).ownsRow base e size (.slice (some ⟨g, 0, none⟩) n cap) n (xs.set j u) := by
  obtain ⟨hl, hv⟩ := h
  rcases hv with ⟨h0, _⟩ | ⟨g', cap', cur, e1, hb, hg, h1, h2, h3, h4⟩
  · cases h0
  · simp only [Value.slice.injEq, Option.some.injEq, Addr.mk.injEq] at e1
    obtain ⟨⟨rfl, _⟩, _, rfl⟩ := e1
    refine ⟨by simpa using hl, .inr ⟨g, cap, cur.setIfInBounds j u, rfl, hb, ?_, h1, h2, by simpa using h3, ?_⟩⟩
    · obtain ⟨hlt, hk⟩ := Array.getElem?_eq_some_iff.1 hg
      show (w.heap.modify g _)[g]? = _
      rw [Array.getElem?_eq_getElem (by rw [Array.size_modify]; exact hlt), Array.getElem_modify_self, hk]
      rfl
    · rw [Array.toList_setIfInBounds, take_set _ _ _ _ hj, h4]
theorem own_frozen {w : World} {base : Nat} {e : TypeId} {size g cap n : Nat} {xs : List Value} (h : w.ownsRow base e size (.slice (some ⟨g, 0, none⟩) n cap) n xs) (j : Nat) : w.frozen? ⟨g, j, none⟩ = false := by
  rcases h.2 with ⟨h0, _⟩ | ⟨g', cap', cur, e1, hb, hg, h1, h2, h3, h4⟩
  · cases h0
  · simp only [Value.slice.injEq, Option.some.injEq, Addr.mk.injEq] at e1
    obtain ⟨⟨rfl, _⟩, _, rfl⟩ := e1
    simp [World.frozen?, hg]
theorem own_cell {w : World} {base : Nat} {e : TypeId} {size g cap n : Nat} {xs : List Value} (h : w.ownsRow base e size (.slice (some ⟨g, 0, none⟩) n cap) n xs) (j : Nat) (hj : j < n * size) (u : Value) (hu : xs[j]? = some u) : w.cell? ⟨g, j, none⟩ = some u := by
  rcases h.2 with ⟨h0, _⟩ | ⟨g', cap', cur, e1, hb, hg, h1, h2, h3, h4⟩
  · cases h0
  · simp only [Value.slice.injEq, Option.some.injEq, Addr.mk.injEq] at e1
    obtain ⟨⟨rfl, _⟩, _, rfl⟩ := e1
    rw [cell_of_row w g j cur e (0, 0) hg]
    rw [← h4, List.getElem?_take, if_pos hj] at hu
    simpa using hu
theorem own_at {w : World} {base : Nat} {e : TypeId} {size g cap n : Nat} {xs : List Value} (h : w.ownsRow base e size (.slice (some ⟨g, 0, none⟩) n cap) n xs) : base ≤ g ∧ g < w.heap.size := by
  rcases h.2 with ⟨h0, _⟩ | ⟨g', cap', cur, e1, hb, hg, h1, h2, h3, h4⟩
  · cases h0
  · simp only [Value.slice.injEq, Option.some.injEq, Addr.mk.injEq] at e1
    obtain ⟨⟨rfl, _⟩, _, rfl⟩ := e1
    exact ⟨hb, (Array.getElem?_eq_some_iff.1 hg).1⟩

theorem cat_repl_len (w : List Int) (ps : List (Bool × List Int)) : (encL (cat (ps.map (repl w)))).length ≤ (encL (cat ps)).length + ps.length * (encL w).length := by
  induction ps with
  | nil => simp [cat, encL]
  | cons p ps ih =>
    rw [List.map_cons, cat_cons, cat_cons, encL_append, encL_append, List.length_append, List.length_append, List.length_cons, Nat.succ_mul]
    have : (encL (repl w p).2).length ≤ (encL p.2).length + (encL w).length := by
      unfold repl; cases p.1 <;> simp
    omega
theorem filter_repl (w : List Int) (ps : List (Bool × List Int)) : ((ps.map (repl w)).filter (·.1)).map (·.2) = (ps.filter (·.1)).map (fun _ => w) := by
  induction ps with
  | nil => rfl
  | cons p ps ih =>
    rw [List.map_cons]
    obtain ⟨b, r⟩ := p
    cases b
    · simpa [repl] using ih
    · simpa [repl] using ih
theorem cat_runes (w : List Int) (hw : ∀ r ∈ w, Lib.validRune r = true) (ps : List (Bool × List Int)) (h : ∀ r ∈ cat ps, Lib.validRune r = true) : ∀ r ∈ cat (ps.map (repl w)), Lib.validRune r = true := by
  induction ps with
  | nil => intro r hr; simp [cat] at hr
  | cons p ps ih =>
    intro r hr
    rw [cat_cons] at h
    rw [List.map_cons, cat_cons] at hr
    rcases List.mem_append.1 hr with hr | hr
    · unfold repl at hr
      cases hb : p.1
      · rw [hb] at hr; exact h r (List.mem_append_left _ hr)
      · rw [hb] at hr; exact hw r hr
    · exact ih (fun q hq => h q (List.mem_append_right _ hq)) r hr
theorem offs_filter (f : Nat) (ps : List (Bool × List Int)) : ((offs f ps).filter (fun p => p.2.2)).length = (ps.filter (·.1)).length := by
  induction ps generalizing f with
  | nil => rfl
  | cons p ps ih =>
    simp only [offs, List.filter_cons]
    cases p.1 <;> simp [ih]

/-- A document with its own tokens, and with other words, in the tokens' places. -/
theorem back_facts (s : ByteArray) (hd : docErr s.data.toList = 0) : joinP s (docSpans s.data.toList) (docTokS s) (docSpans s.data.toList).length = s.data.toList ∧
    (docTokS s).length = cnt (docSpans s.data.toList) (docSpans s.data.toList).length := by
  have hv := (doc_ok s hd).2
  have hds : docSpans s.data.toList = offs 0 (pieces (items s.data.toList)) := by unfold docSpans; rw [if_pos hd]; exact spans_offs _ 0
  have hdr : s.data.toList.drop 0 = encL (cat (pieces (items s.data.toList))) := by rw [cat_pieces, enc_items _ hv]; rfl
  have hts : docTokS s = ((pieces (items s.data.toList)).filter (·.1)).map (fun p => mkS (id p.2)) := by
    rw [docTok_tk s hd, ← tk_pieces, List.map_map]; rfl
  constructor
  · rw [join_jn, hds, hts, jn_offs s id _ 0 hdr]
    have : (pieces (items s.data.toList)).map (fun p => if p.1 then (true, id p.2) else p) = pieces (items s.data.toList) := by
      conv => rhs; rw [← List.map_id (pieces (items s.data.toList))]
      refine List.map_congr_left (fun p _ => ?_)
      obtain ⟨b, r⟩ := p
      cases b <;> rfl
    rw [this, cat_pieces, enc_items _ hv]
  · rw [cnt_all, hds, offs_filter, hts, List.length_map]
theorem back_words (s t : ByteArray) (hd : docErr s.data.toList = 0) (hs : s.size ≤ 3000) (ht : t.size ≤ 50) (hl : lettersB t.data.toList = true) :
    ∃ (b : ByteArray) (l' : List Sp), joinP s (docSpans s.data.toList) (List.replicate (docTokS s).length t) (docSpans s.data.toList).length = b.data.toList ∧ docErr b.data.toList = 0 ∧ docTokS b = List.replicate (docTokS s).length t ∧ docSpans b.data.toList = l' ∧ l'.length = (docSpans s.data.toList).length := by
  obtain ⟨hvt, hne, hlet, _⟩ := letters_parts t hl
  have hv := (doc_ok s hd).2
  obtain ⟨ps, hps⟩ : ∃ ps, pieces (items s.data.toList) = ps := ⟨_, rfl⟩
  obtain ⟨wr, hwr⟩ : ∃ wr, items t.data.toList = wr := ⟨_, rfl⟩
  have hmt : mkS wr = t := by rw [← hwr]; exact mkS_items t hvt
  rw [hwr] at hne hlet
  have hcat : cat ps = items s.data.toList := by rw [← hps]; exact cat_pieces _
  have hds : docSpans s.data.toList = offs 0 ps := by unfold docSpans; rw [if_pos hd, ← hps]; exact spans_offs _ 0
  have hdr : s.data.toList.drop 0 = encL (cat ps) := by rw [hcat, enc_items _ hv]; rfl
  have hts : docTokS s = (ps.filter (·.1)).map (fun p => mkS p.2) := by
    rw [docTok_tk s hd, ← tk_pieces, hps, List.map_map]; rfl
  have hrep : List.replicate (docTokS s).length t = (ps.filter (·.1)).map (fun p => mkS ((fun _ => wr) p.2)) := by
    rw [hts, List.length_map]
    simp only [hmt]
    exact List.map_const'.symm
  have hrr : ∀ r ∈ cat (ps.map (repl wr)), Lib.validRune r = true := by
    refine cat_runes wr (fun r hr => ?_) ps (fun r hr => ?_)
    · rw [← hwr] at hr; exact items_runes _ hvt r hr
    · rw [hcat] at hr; exact items_runes _ hv r hr
  have hio := items_of_enc _ hrr
  have hpl : ps.length ≤ 3000 := by
    have h1 := spansL_len s.data.toList
    have h2 : spansL s.data.toList = offs 0 ps := by rw [← hps]; exact spans_offs _ 0
    rw [h2, offs_len, ← Lib.size_eq] at h1; omega
  have hbl : (mkS (cat (ps.map (repl wr)))).size ≤ 1048576 := by
    have h1 := cat_repl_len wr ps
    rw [hcat, enc_items _ hv, ← Lib.size_eq] at h1
    have h2 : (encL wr).length = t.size := by rw [← hmt, Lib.size_eq, mkS_data]
    rw [h2] at h1
    rw [Lib.size_eq, mkS_data]
    have h3 : ps.length * t.size ≤ 3000 * 50 := Nat.mul_le_mul hpl ht
    omega
  have hdb : docErr (mkS (cat (ps.map (repl wr)))).data.toList = 0 := doc_of _ hbl (by rw [mkS_data]; exact hio.2)
  have hal : AltAll (ps.map (repl wr)) := altAll_repl wr hne hlet ps (by rw [← hps]; exact alt_pieces _)
  refine ⟨mkS (cat (ps.map (repl wr))), _, ?_, hdb, ?_, rfl, ?_⟩
  · rw [join_jn, hds, hrep, jn_offs s (fun _ => wr) ps 0 hdr, mkS_data]; rfl
  · rw [docTok_tk _ hdb, mkS_data, hio.1, ← tk_pieces, pieces_alt _ hal, filter_repl, hrep, List.map_map]; rfl
  · unfold docSpans
    rw [if_pos hdb, if_pos hd]
    show (spansFrom 0 (items _)).length = (spansFrom 0 (items _)).length
    rw [mkS_data, hio.1, spans_offs, spans_offs, offs_len, offs_len, pieces_alt _ hal, hps, List.length_map]
end Go.Proofs.YtephhejfkihhgaaDoor
