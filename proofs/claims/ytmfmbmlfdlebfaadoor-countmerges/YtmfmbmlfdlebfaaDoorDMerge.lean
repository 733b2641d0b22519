/- count.Merge: the table of two tables. -/
import Derived.Test.YtmfmbmlfdlebfaaDoorDSide
import Derived.Test.YtmfmbmlfdlebfaaDoorPk14
namespace Go.Proofs.YtmfmbmlfdlebfaaDoor
open Go.RowKit Go.Shelf
set_option linter.unusedSimpArgs false
set_option linter.unusedVariables false

theorem szL_mrg {a b : List Blk} (sa : Srt a) (sb : Srt b) (pa : posN a) (pb : posN b) (za : szL a) (zb : szL b) : szL (mrg a b) := fun z hz => by
  rcases (mrg_facts _ a b (Nat.le_refl _) sa sb pa pb).2.2.2 z hz with ⟨y, hy, e⟩ | ⟨y, hy, e⟩
  · have := za y hy; rw [← e.1, ← e.2] at this; exact this
  · have := zb y hy; rw [← e.1, ← e.2] at this; exact this
theorem mrg_len : ∀ (n : Nat) (a b : List Blk), a.length + b.length ≤ n → (mrg a b).length ≤ a.length + b.length := by
  intro n
  induction n with
  | zero =>
    intro a b h
    have ha : a = [] := List.eq_nil_of_length_eq_zero (by omega)
    subst ha
    rw [mrg_nil]; simp
  | succ n ih =>
    intro a b h
    cases a with
    | nil => rw [mrg_nil]; simp
    | cons x a =>
      cases b with
      | nil => rw [mrg_none]; simp
      | cons y b =>
        simp only [List.length_cons] at h ⊢
        rcases less_one x y with ⟨h1, _, _⟩ | ⟨h1, h2, _⟩ | ⟨h1, h2, h3⟩
        · rw [mrg_less a b h1]
          have := ih a (y :: b) (by simp only [List.length_cons]; omega)
          simp only [List.length_cons] at this ⊢; omega
        · rw [mrg_more a b h1 h2]
          have := ih (x :: a) b (by simp only [List.length_cons]; omega)
          simp only [List.length_cons] at this ⊢; omega
        · rw [mrg_same a b h1 h2]
          have := ih a b (by omega)
          simp only [List.length_cons]; omega

set_option maxRecDepth 100000 in
set_option maxHeartbeats 8000000 in
theorem merge_any (u v : Value) (a b : List Blk) (w : World) (hO : Okw w) (hu : BRuns w u a) (hv : BRuns w v b) (hla : a.length ≤ 2000000) (hlb : b.length ≤ 2000000) (hza : szL a) (hzb : szL b) :
    Calls Tryd.prog 21 #[u, v] w fun e w' => ∃ x, e = .returned (.tuple #[x, .int .i64 (merE a b)]) ∧ BRuns w' x (merS a b) ∧ Below w.heap.size w w' := by
  obtain ⟨A, c, e⟩ := hu.slice
  subst e
  obtain ⟨B, d, e⟩ := hv.slice
  subst e
  have c1 := fun w hO hu => total_any (.slice A a.length c) a w hO hu hla hza
  have c2 := fun w hO hv => total_any (.slice B b.length d) b w hO hv hlb hzb
  have c3 := fun w hu hv h1 h2 h3 h4 => side_any (.slice A a.length c) (.slice B b.length d) a b w hu hv h1 h2 h3 h4
  obtain ⟨R, hR⟩ : ∃ z, merE a b = z := ⟨_, rfl⟩
  obtain ⟨X, hX⟩ : ∃ z, merS a b = z := ⟨_, rfl⟩
  have hE : merE a b = if chkT a = 0 then (if chkT b = 0 then tabE (a ++ b) else chkT b) else chkT a := rfl
  have hS0 : merE a b ≠ 0 → merS a b = [] := fun h => by rw [merS, if_neg h]
  obtain ⟨ea, hea⟩ : ∃ z, chkT a = z := ⟨_, rfl⟩
  obtain ⟨eb, heb⟩ : ∃ z, chkT b = z := ⟨_, rfl⟩
  obtain ⟨ta, hta⟩ : ∃ z, totS a = z := ⟨_, rfl⟩
  obtain ⟨tb, htb⟩ : ∃ z, totS b = z := ⟨_, rfl⟩
  obtain ⟨M, hM⟩ : ∃ z, mrg a b = z := ⟨_, rfl⟩
  have HK : Hid (ea = 0 → eb = 0 → (R = (if 1073741824 - tb < ta then 6 else if 4096 < M.length then 6 else 0)) ∧ (X = (if 1073741824 - tb < ta then [] else if 4096 < M.length then [] else M)) ∧ a.length ≤ 4096 ∧ b.length ≤ 4096 ∧ okN a ∧ okN b ∧ szL M ∧ M.length ≤ 8192 ∧ 0 ≤ ta ∧ ta ≤ 1073741824 ∧ 0 ≤ tb ∧ tb ≤ 1073741824) := Lib.hid (fun h1 h2 => by
    rw [h1] at hea
    rw [h2] at heb
    obtain ⟨a1, a2, a3, a4⟩ := chkT_facts hea
    obtain ⟨b1, b2, b3, b4⟩ := chkT_facts heb
    have ea' : totS a = sumN a := by rw [totS, if_pos hea]
    have eb' : totS b = sumN b := by rw [totS, if_pos heb]
    have := mer_mrg hea heb
    rw [← ea', ← eb', hta, htb, hM, hR, hX] at this
    have hl := mrg_len _ a b (Nat.le_refl _)
    rw [hM] at hl
    refine ⟨this.1, this.2, a3, b3, okN_of a1, okN_of b1, by rw [← hM]; exact szL_mrg a2 b2 (posN_of a1) (posN_of b1) hza hzb, by omega, ?_, ?_, ?_, ?_⟩
    · rw [← hta, ea']; exact sumN_nonneg (posN_of a1)
    · rw [← hta, ea']; exact a4
    · rw [← htb, eb']; exact sumN_nonneg (posN_of b1)
    · rw [← htb, eb']; exact b4)
  rw [hR] at hE hS0
  rw [hX] at hS0
  rw [hR, hX]
  simp only [hea, hta] at c1
  simp only [heb, htb] at c2
  simp only [hM] at c3
  rw [hea, heb] at hE
  have HE := Lib.hid hE; have HS0 := Lib.hid hS0
  clear hE hS0 hR hX hea heb hta htb hM hza hzb
  obtain ⟨n, hn⟩ : ∃ n, a.length = n := ⟨_, rfl⟩
  obtain ⟨m, hm⟩ : ∃ n, b.length = n := ⟨_, rfl⟩
  simp only [hn] at c1 c3 HK
  simp only [hm] at c2 c3 HK
  rw [hn] at hla hu ⊢
  rw [hm] at hlb hv ⊢
  have HU := Lib.hid hu; have HV := Lib.hid hv; have HOK := Lib.hid hO
  have C1 := Lib.hid c1; have C2 := Lib.hid c2; have C3 := Lib.hid c3
  clear hu hv hO c1 c2 c3 hn hm
  go_enter Tryd.func21, Tryd.ntmps21
  go_wp2_with fail
  refine (C1.out _ HOK.out HU.out).mono ?_
  rintro e w1 ⟨rfl, b1⟩
  have U1 := Lib.hid (HU.out.below b1); have V1 := Lib.hid (HV.out.below b1); have K1 : Hid (Okw w1) := Lib.hid (HOK.out.below b1)
  have B1 := Lib.hid b1; clear b1
  by_cases h1 : ea = 0
  · subst h1
    go_wp2_with fail
    refine (C2.out _ K1.out V1.out).mono ?_
    rintro e w2 ⟨rfl, b2⟩
    have U2 := Lib.hid (U1.out.below b2); have V2 := Lib.hid (V1.out.below b2)
    have B2 := Lib.hid (B1.out.trans (b2.mono B1.out.size)); clear b2
    by_cases h2 : eb = 0
    · subst h2
      obtain ⟨hr, hx, g1, g2, g3, g4, g5, g6, g7, g8, g9, g10⟩ := HK.out (by first | rfl | trivial) (by first | rfl | trivial)
      have HR := Lib.hid hr; have HX := Lib.hid hx; have G5 := Lib.hid g5
      have C3' := Lib.hid (fun w hu hv => C3.out w hu hv g1 g2 g3 g4)
      clear hr hx g3 g4 g5 HK C3 C1 C2 HS0 HE
      have hwr : IntKind.i64.wrap (1073741824 - tb) = 1073741824 - tb := by rw [IntKind.wrap_i64]; omega
      by_cases hbig : 1073741824 - tb < ta
      · have hr : Hid (R = 6) := Lib.hid (by rw [HR.out, if_pos hbig])
        have hx : Hid (X = []) := Lib.hid (by rw [HX.out, if_pos hbig])
        go_wp2
        go_ret2
        exact ⟨_, by rw [hr.out]; rfl, by rw [hx.out]; exact GRuns.nil_ _ _ _, B2.out⟩
      · have HB := Lib.hid hbig
        go_wp2_with fail
        refine (C3'.out _ U2.out V2.out).mono ?_
        rintro e w3 ⟨x, rfl, o3, nn3, b3⟩
        obtain ⟨k, hk⟩ : ∃ k, M.length = k := ⟨_, rfl⟩
        have r3 := GRuns.of_own blk_ln hk (by rw [hk] at o3; exact o3)
        obtain ⟨g, cap, e⟩ : ∃ g cap, x = .slice (some ⟨g, 0, none⟩) k cap := by
          rw [hk] at o3
          rcases o3.2 with ⟨e, _⟩ | ⟨g, cap, cur, e, _⟩
          · exact absurd e nn3
          · exact ⟨g, cap, e⟩
        subst e
        rw [hk] at o3
        have th := own_thaw o3
        have B3 := Lib.hid (B2.out.trans (b3.mono B2.out.size))
        have cr := Lib.hid (renew_any _ M k w3 hk r3 (.inr ⟨g, cap, rfl, fun j _ => th j⟩) (by omega) G5.out)
        have R3 := Lib.hid r3
        rw [hk] at HR HX g6
        clear b3 r3 o3 th nn3 hk
        by_cases hl : 4096 < k
        · have hl' : (4096 : Int) < (k : Int) := by omega
          have hr : Hid (R = 6) := Lib.hid (by rw [HR.out, if_neg (by have := HB.out; omega), if_pos hl])
          have hx : Hid (X = []) := Lib.hid (by rw [HX.out, if_neg (by have := HB.out; omega), if_pos hl])
          go_wp2
          go_ret2
          exact ⟨_, by rw [hr.out]; rfl, by rw [hx.out]; exact GRuns.nil_ _ _ _, B3.out⟩
        · have hl' : ¬ (4096 : Int) < (k : Int) := by omega
          have hr : Hid (R = 0) := Lib.hid (by rw [HR.out, if_neg (by have := HB.out; omega), if_neg hl])
          have hx : Hid (X = M) := Lib.hid (by rw [HX.out, if_neg (by have := HB.out; omega), if_neg hl])
          go_wp2_with fail
          refine cr.out.mono ?_
          rintro e w4 ⟨rfl, b4⟩
          have R4 := Lib.hid (R3.out.below b4)
          have B4 := Lib.hid (B3.out.trans (b4.mono B3.out.size)); clear b4
          go_wp2
          go_ret2
          exact ⟨_, by rw [hr.out]; rfl, by rw [hx.out]; exact R4.out, B4.out⟩
    · have h2' : (eb == 0) = false := by simpa using h2
      have hr : Hid (R = eb) := Lib.hid (by rw [HE.out, if_pos (by first | rfl | trivial), if_neg h2])
      have hx : Hid (X = []) := Lib.hid (HS0.out (by rw [hr.out]; exact h2))
      go_wp2
      go_ret2
      exact ⟨_, by rw [hr.out]; rfl, by rw [hx.out]; exact GRuns.nil_ _ _ _, B2.out⟩
  · have h1' : (ea == 0) = false := by simpa using h1
    have hr : Hid (R = ea) := Lib.hid (by rw [HE.out, if_neg h1])
    have hx : Hid (X = []) := Lib.hid (HS0.out (by rw [hr.out]; exact h1))
    go_wp2
    go_ret2
    exact ⟨_, by rw [hr.out]; rfl, by rw [hx.out]; exact GRuns.nil_ _ _ _, B1.out⟩
end Go.Proofs.YtmfmbmlfdlebfaaDoor
