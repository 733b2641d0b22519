/- Layer 11, plain: what the longest words and the parts of texts are, as texts. -/
import Derived.Test.YtljaibhhkjapmaaDoorPk20
import Derived.Test.YtljaibhhkjapmaaDoorUSplP
namespace Go.Proofs.YtljaibhhkjapmaaDoor
open Go.RowKit Go.Shelf
set_option linter.unusedSimpArgs false
set_option linter.unusedVariables false

theorem wfE_in {X : List Wrd} (hn : wisS X = 0) {x : Wrd} (hx : x ∈ X) : wfE X x.1 = 0 := by
  have h1 := frq_pos (frB_of (wisS_facts hn).1) hx
  unfold wfE
  rw [if_pos hn, if_neg (by omega)]
theorem uE_word {X : List Wrd} (hn : wisS X = 0) {x : Wrd} (hx : x ∈ X) : uE x.1.data.toList = 0 ∧ uS x.1.data.toList = rnK x.1 ∧ (rnK x.1).length ≤ 64 := by
  have hm : rnK x.1 ∈ rnW X := List.mem_map.2 ⟨x, hx, rfl⟩
  obtain ⟨_, h2, _⟩ := rnW_facts hn _ hm
  have h1 : uE x.1.data.toList = 0 := by
    unfold uE
    rw [valid_of hn hx]
    simp only [if_true]
    exact if_neg (show ¬ 64 < (rnK x.1).length by omega)
  exact ⟨h1, by rw [uS, if_pos h1]; rfl, h2⟩
theorem lng_facts {X : List Wrd} (hn : wisS X = 0) (s : ByteArray) : (uE s.data.toList ≠ 0 ∧ uE s.data.toList ≠ 10 ∧ ulE (rnW X) s.data.toList = uE s.data.toList ∧ ulS (rnW X) s.data.toList = ⟨#[]⟩) ∨
    (ulE (rnW X) s.data.toList = 10 ∧ ulS (rnW X) s.data.toList = ⟨#[]⟩ ∧ ∀ x ∈ X, preK x.1 s = true → x.1.size ≤ 0) ∨
    (ulE (rnW X) s.data.toList = 0 ∧ wfE X (ulS (rnW X) s.data.toList) = 0 ∧ preK (ulS (rnW X) s.data.toList) s = true ∧ ∀ x ∈ X, preK x.1 s = true → x.1.size ≤ (ulS (rnW X) s.data.toList).size) := by
  by_cases he : uE s.data.toList = 0
  · right
    obtain ⟨hv, hl, hus⟩ := uE_ok he
    have hlg := lgD_is hn hv
    have hsp := lgD_spec s _ X rfl
    have hS : ulS (rnW X) s.data.toList = lgD X s := by rw [ulS, if_pos he, hus, hlg]; rfl
    have hE : ulE (rnW X) s.data.toList = if lngN (rnW X) (rnK s) = 0 then 10 else 0 := by rw [ulE, if_pos he, hus]; rfl
    rw [hS, hE]
    rcases lngN_spec (no_empty hn) (rnK s) with ⟨e, h1⟩ | ⟨e, h1, h2, h3⟩
    · left
      rw [e, List.take_zero] at hlg
      have hz : lgD X s = ⟨#[]⟩ := hlg
      refine ⟨if_pos e, hz, fun x hx hp => ?_⟩
      have := hsp.2 x hx hp
      rw [hz] at this
      exact this
    · right
      obtain ⟨b, hb, eb⟩ := List.mem_map.1 h2
      have e2 : lgD X s = b.1 := by rw [hlg, ← eb, mkT_rn (valid_of hn hb)]
      refine ⟨if_neg (by omega), by rw [e2]; exact wfE_in hn hb, ?_, hsp.2⟩
      rw [e2]
      have hlen : (rnK b.1).length = lngN (rnW X) (rnK s) := by rw [eb, List.length_take]; omega
      exact (pre_take hn hv hb).2 ⟨by omega, by rw [hlen]; exact eb.symm⟩
  · left
    refine ⟨he, fun h => ?_, by rw [ulE, if_neg he], by rw [ulS, if_neg he]⟩
    unfold uE at h
    split at h
    · split at h <;> cases h
    · cases h
theorem lng_self {X : List Wrd} (hn : wisS X = 0) {x : Wrd} (hx : x ∈ X) : ulE (rnW X) x.1.data.toList = 0 ∧ ulS (rnW X) x.1.data.toList = x.1 := by
  obtain ⟨h1, h2, h3⟩ := uE_word hn hx
  have hm : rnK x.1 ∈ rnW X := List.mem_map.2 ⟨x, hx, rfl⟩
  have hl := lngN_word (no_empty hn) hm
  have hne : (rnK x.1).length ≠ 0 := fun h => no_empty hn (by rw [← List.eq_nil_of_length_eq_zero h]; exact hm)
  refine ⟨by rw [ulE, if_pos h1, h2, if_neg (by rw [hl]; exact hne)], ?_⟩
  rw [ulS, if_pos h1, h2, hl, List.take_length, mkT_rn (valid_of hn hx)]
theorem spl_self {X : List Wrd} (hn : wisS X = 0) {x : Wrd} (hx : x ∈ X) : uspE (rnW X) x.1.data.toList = 0 ∧ uspS (rnW X) x.1.data.toList = [x.1] := by
  obtain ⟨h1, h2, h3⟩ := uE_word hn hx
  have hm : rnK x.1 ∈ rnW X := List.mem_map.2 ⟨x, hx, rfl⟩
  have hc := cut_word (no_empty hn) hm h3
  refine ⟨by rw [uspE, if_pos h1, h2, hc]; rfl, ?_⟩
  rw [uspS, if_pos h1, h2]
  unfold spl
  rw [hc]
  show [mkT ((rnK x.1).take (cut (rnW X) (rnK x.1)).2)] = [x.1]
  rw [hc, List.take_length, mkT_rn (valid_of hn hx)]
theorem flat_mkT (ws : List (List Int)) : ((ws.map mkT).map (fun b => b.data.toList)).flatten = encL ws.flatten := by
  induction ws with
  | nil => rfl
  | cons x ws ih => simp only [List.map_cons, List.flatten_cons, ih, mkT_data, encL_append]
theorem spl_of {X : List Wrd} (hn : wisS X = 0) (s : ByteArray) (h0 : uspE (rnW X) s.data.toList = 0) : uE s.data.toList = 0 ∧ (cut (rnW X) (rnK s)).1 ≠ 65 ∧ (rnK s).length ≤ 64 ∧ uspS (rnW X) s.data.toList = (spl (rnW X) (rnK s)).map mkT := by
  by_cases he : uE s.data.toList = 0
  · obtain ⟨hv, hl, hus⟩ := uE_ok he
    rw [uspE, if_pos he, hus] at h0
    refine ⟨he, fun h => ?_, hl, by rw [uspS, if_pos he, hus]; rfl⟩
    rw [if_pos (show (cut (rnW X) (items s.data.toList)).1 = 65 from h)] at h0
    cases h0
  · rw [uspE, if_neg he] at h0
    exact absurd h0 he
/-- Parts are words, one behind the other the text. -/
theorem spl_text {X : List Wrd} (hn : wisS X = 0) (s : ByteArray) (h0 : uspE (rnW X) s.data.toList = 0) : ((uspS (rnW X) s.data.toList).map (fun b => b.data.toList)).flatten = s.data.toList ∧ (∀ p ∈ uspS (rnW X) s.data.toList, wfE X p = 0) ∧ (uspS (rnW X) s.data.toList).length ≤ 64 := by
  obtain ⟨he, hc, hl, hS⟩ := spl_of hn s h0
  obtain ⟨h1, h2⟩ := spl_facts (no_empty hn) _ (rnK s) rfl hl hc
  have hlen := spl_len hc
  have hcl := cut_len (no_empty hn) _ (rnK s) rfl
  rw [hS]
  refine ⟨by rw [flat_mkT, h1]; exact enc_items _ (uE_ok he).1, fun p hp => ?_, by rw [List.length_map, hlen]; omega⟩
  obtain ⟨y, hy, rfl⟩ := List.mem_map.1 hp
  obtain ⟨b, hb, e⟩ := List.mem_map.1 (h2 y hy)
  rw [← e, mkT_rn (valid_of hn hb)]
  exact wfE_in hn hb
/-- Two texts that are parted are parted together, into no more. -/
theorem spl_join {X : List Wrd} (hn : wisS X = 0) (s t : ByteArray) (h1 : uspE (rnW X) s.data.toList = 0) (h2 : uspE (rnW X) t.data.toList = 0) : uspE (rnW X) (s ++ t).data.toList = 5 ∨ (uspE (rnW X) (s ++ t).data.toList = 0 ∧ (uspS (rnW X) (s ++ t).data.toList).length ≤ (uspS (rnW X) s.data.toList).length + (uspS (rnW X) t.data.toList).length) := by
  obtain ⟨a1, a2, a3, a4⟩ := spl_of hn s h1
  obtain ⟨b1, b2, b3, b4⟩ := spl_of hn t h2
  have hd : (s ++ t).data.toList = s.data.toList ++ t.data.toList := by rw [ByteArray.data_append, Array.toList_append]
  obtain ⟨j1, j2⟩ := items_join s.data.toList t.data.toList (uE_ok a1).1
  have hv : Lib.validD (s ++ t).data.toList = true := by rw [hd, j2]; exact (uE_ok b1).1
  have hr : rnK (s ++ t) = rnK s ++ rnK t := by show items (s ++ t).data.toList = _; rw [hd, j1]; rfl
  by_cases hl : 64 < (rnK (s ++ t)).length
  · left
    have he : uE (s ++ t).data.toList = 5 := by
      unfold uE
      rw [hv]
      simp only [if_true]
      exact if_pos hl
    rw [uspE, he, if_neg (by decide)]
  · right
    have he : uE (s ++ t).data.toList = 0 := by
      unfold uE
      rw [hv]
      simp only [if_true]
      exact if_neg hl
    have hus := (uE_ok he).2.2
    obtain ⟨f1, f2⟩ := spl_facts (no_empty hn) _ (rnK s) rfl a3 a2
    obtain ⟨g1, g2⟩ := spl_facts (no_empty hn) _ (rnK t) rfl b3 b2
    have hfw := cut_few (no_empty hn) (spl (rnW X) (rnK s) ++ spl (rnW X) (rnK t)) (fun x hx => (List.mem_append.1 hx).elim (f2 x) (g2 x)) (by rw [List.flatten_append, f1, g1, ← hr]; omega)
    rw [List.flatten_append, f1, g1, ← hr, List.length_append] at hfw
    have e1 : uspE (rnW X) (s ++ t).data.toList = 0 := by
      rw [uspE, if_pos he, hus, if_neg]
      exact hfw.2
    obtain ⟨_, c2, _, c4⟩ := spl_of hn (s ++ t) e1
    refine ⟨e1, ?_⟩
    rw [c4, a4, b4, List.length_map, List.length_map, List.length_map, spl_len c2]
    exact hfw.1
end Go.Proofs.YtljaibhhkjapmaaDoor
