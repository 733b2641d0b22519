/- Two tables side by side, plain. -/
import Derived.Test.YtmfmbmlfdlebfaaDoorPk8
namespace Go.Proofs.YtmfmbmlfdlebfaaDoor
open Go.RowKit Go.Shelf

def mrg : List Blk → List Blk → List Blk
  | [], b => b
  | a, [] => a
  | x :: a, y :: b => if lessB x y = true then x :: mrg a (y :: b) else if lessB y x = true then y :: mrg (x :: a) b else (x.1, x.2.1, x.2.2 + y.2.2) :: mrg a b
termination_by a b => a.length + b.length
theorem mrg_nil (b : List Blk) : mrg [] b = b := by rw [mrg]
theorem mrg_none (a : List Blk) : mrg a [] = a := by cases a <;> simp [mrg]
theorem mrg_less {x y : Blk} (a b : List Blk) (h : lessB x y = true) : mrg (x :: a) (y :: b) = x :: mrg a (y :: b) := by rw [mrg, if_pos h]
theorem mrg_more {x y : Blk} (a b : List Blk) (h : lessB x y = false) (h2 : lessB y x = true) : mrg (x :: a) (y :: b) = y :: mrg (x :: a) b := by rw [mrg, if_neg (by simp [h]), if_pos h2]
theorem mrg_same {x y : Blk} (a b : List Blk) (h : lessB x y = false) (h2 : lessB y x = false) : mrg (x :: a) (y :: b) = (x.1, x.2.1, x.2.2 + y.2.2) :: mrg a b := by rw [mrg, if_neg (by simp [h]), if_neg (by simp [h2])]

theorem mrg_facts : ∀ (n : Nat) (a b : List Blk), a.length + b.length ≤ n → Srt a → Srt b → posN a → posN b →
    Srt (mrg a b) ∧ (∀ k, cnt (mrg a b) k = cnt a k + cnt b k) ∧ posN (mrg a b) ∧ (∀ z ∈ mrg a b, (∃ y ∈ a, sameS z y) ∨ ∃ y ∈ b, sameS z y) := by
  intro n
  induction n with
  | zero =>
    intro a b h _ _ _ _
    have ha : a = [] := List.eq_nil_of_length_eq_zero (by omega)
    have hb : b = [] := List.eq_nil_of_length_eq_zero (by omega)
    subst ha hb
    rw [mrg_nil]
    exact ⟨trivial, fun k => by simp [cnt_nil], fun z hz => by simp at hz, fun z hz => by simp at hz⟩
  | succ n ih =>
    intro a b h sa sb pa pb
    cases a with
    | nil => rw [mrg_nil]; exact ⟨sb, fun k => by simp [cnt_nil], pb, fun z hz => .inr ⟨z, hz, rfl, rfl⟩⟩
    | cons x a =>
      cases b with
      | nil => rw [mrg_none]; exact ⟨sa, fun k => by simp [cnt_nil], pa, fun z hz => .inl ⟨z, hz, rfl, rfl⟩⟩
      | cons y b =>
        simp only [List.length_cons] at h
        have pa' : posN a := fun z hz => pa z (by simp [hz])
        have pb' : posN b := fun z hz => pb z (by simp [hz])
        rcases less_one x y with ⟨h1, _, _⟩ | ⟨h1, h2, _⟩ | ⟨h1, h2, h3⟩
        · rw [mrg_less a b h1]
          obtain ⟨q1, q2, q3, q4⟩ := ih a (y :: b) (by simp only [List.length_cons]; omega) sa.2 sb pa' pb
          refine ⟨⟨fun z hz => ?_, q1⟩, fun k => ?_, fun z hz => ?_, fun z hz => ?_⟩
          · rcases q4 z hz with ⟨u, hu, e⟩ | ⟨u, hu, e⟩
            · rw [less_key ⟨rfl, rfl⟩ e]; exact sa.1 u hu
            · rw [less_key ⟨rfl, rfl⟩ e]
              rcases List.mem_cons.1 hu with rfl | hu
              · exact h1
              · exact less_on x y u h1 (sb.1 u hu)
          · rw [cnt_cons, q2, cnt_cons x a]; omega
          · rcases List.mem_cons.1 hz with rfl | hz
            · exact pa z (by simp)
            · exact q3 z hz
          · rcases List.mem_cons.1 hz with rfl | hz
            · exact .inl ⟨z, by simp, rfl, rfl⟩
            · rcases q4 z hz with ⟨u, hu, e⟩ | h
              · exact .inl ⟨u, by simp [hu], e⟩
              · exact .inr h
        · rw [mrg_more a b h1 h2]
          obtain ⟨q1, q2, q3, q4⟩ := ih (x :: a) b (by simp only [List.length_cons]; omega) sa sb.2 pa pb'
          refine ⟨⟨fun z hz => ?_, q1⟩, fun k => ?_, fun z hz => ?_, fun z hz => ?_⟩
          · rcases q4 z hz with ⟨u, hu, e⟩ | ⟨u, hu, e⟩
            · rw [less_key ⟨rfl, rfl⟩ e]
              rcases List.mem_cons.1 hu with rfl | hu
              · exact h2
              · exact less_on y x u h2 (sa.1 u hu)
            · rw [less_key ⟨rfl, rfl⟩ e]; exact sb.1 u hu
          · rw [cnt_cons, q2, cnt_cons y b]; omega
          · rcases List.mem_cons.1 hz with rfl | hz
            · exact pb z (by simp)
            · exact q3 z hz
          · rcases List.mem_cons.1 hz with rfl | hz
            · exact .inr ⟨z, by simp, rfl, rfl⟩
            · rcases q4 z hz with h | ⟨u, hu, e⟩
              · exact .inl h
              · exact .inr ⟨u, by simp [hu], e⟩
        · rw [mrg_same a b h1 h2]
          obtain ⟨q1, q2, q3, q4⟩ := ih a b (by omega) sa.2 sb.2 pa' pb'
          refine ⟨⟨fun z hz => ?_, q1⟩, fun k => ?_, fun z hz => ?_, fun z hz => ?_⟩
          · rcases q4 z hz with ⟨u, hu, e⟩ | ⟨u, hu, e⟩
            · exact (less_key (a := (x.1, x.2.1, x.2.2 + y.2.2)) (c := x) ⟨rfl, rfl⟩ e).trans (sa.1 u hu)
            · exact (less_key (a := (x.1, x.2.1, x.2.2 + y.2.2)) (c := y) h3 e).trans (sb.1 u hu)
          · rw [cnt_cons, q2, cnt_cons x a, cnt_cons y b]
            have e1 : sameS (x.1, x.2.1, x.2.2 + y.2.2) k ↔ sameS x k := Iff.rfl
            have e2 : sameS y k ↔ sameS x k := by unfold sameS; rw [h3.1, h3.2]
            by_cases hk : sameS x k
            · rw [if_pos (e1.2 hk), if_pos hk, if_pos (e2.2 hk)]
              show x.2.2 + y.2.2 + _ = _
              omega
            · rw [if_neg (fun h => hk (e1.1 h)), if_neg hk, if_neg (fun h => hk (e2.1 h))]; omega
          · rcases List.mem_cons.1 hz with rfl | hz
            · have h4 := pa x (by simp)
              have h5 := pb y (by simp)
              show 1 ≤ x.2.2 + y.2.2
              omega
            · exact q3 z hz
          · rcases List.mem_cons.1 hz with rfl | hz
            · exact .inl ⟨x, by simp, rfl, rfl⟩
            · rcases q4 z hz with ⟨u, hu, e⟩ | ⟨u, hu, e⟩
              · exact .inl ⟨u, by simp [hu], e⟩
              · exact .inr ⟨u, by simp [hu], e⟩
theorem mrg_gat {a b : List Blk} (sa : Srt a) (sb : Srt b) (pa : posN a) (pb : posN b) : mrg a b = gat (a ++ b) := by
  obtain ⟨q1, q2, q3, _⟩ := mrg_facts _ a b (Nat.le_refl _) sa sb pa pb
  exact gat_uniq (fun z hz => by rcases List.mem_append.1 hz with h | h; exact pa z h; exact pb z h) q1 q3 (fun k => by rw [q2, cnt_append])
/-- The table of two tables. -/
theorem mer_mrg {a b : List Blk} (ha : chkT a = 0) (hb : chkT b = 0) : merE a b = (if 1073741824 - sumN b < sumN a then 6 else if 4096 < (mrg a b).length then 6 else 0) ∧ merS a b = (if 1073741824 - sumN b < sumN a then [] else if 4096 < (mrg a b).length then [] else mrg a b) := by
  obtain ⟨a1, a2, a3, a4⟩ := chkT_facts ha
  obtain ⟨b1, b2, b3, b4⟩ := chkT_facts hb
  have e := mrg_gat a2 b2 (posN_of a1) (posN_of b1)
  have hc : chkAll (a ++ b) = 0 := by rw [chkAll_append, if_pos a1, b1]
  have hm : merE a b = (if 1073741824 - sumN b < sumN a then 6 else if 4096 < (mrg a b).length then 6 else 0) := by
    rw [merE, if_pos ha, if_pos hb, tabE, if_pos hc, sumN_append, e]
    by_cases h1 : 1073741824 - sumN b < sumN a
    · rw [if_pos h1, if_pos (.inr (by omega))]
    · rw [if_neg h1]
      by_cases h2 : 4096 < (gat (a ++ b)).length
      · rw [if_pos h2, if_pos (.inl h2)]
      · rw [if_neg h2, if_neg (by omega)]
  refine ⟨hm, ?_⟩
  rw [merS, hm, e]
  by_cases h1 : 1073741824 - sumN b < sumN a
  · simp [h1]
  · by_cases h2 : 4096 < (gat (a ++ b)).length
    · simp [h1, h2]
    · simp [h1, h2]
end Go.Proofs.YtmfmbmlfdlebfaaDoor
