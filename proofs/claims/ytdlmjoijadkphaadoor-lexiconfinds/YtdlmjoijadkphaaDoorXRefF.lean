/- errataref09.Find, Begins: what each answers. -/
import Derived.Test.YtdlmjoijadkphaaDoorPk4
namespace Go.Proofs.YtdlmjoijadkphaaDoor
open Go.RowKit Go.Shelf
set_option linter.unusedSimpArgs false
set_option linter.unusedVariables false

set_option maxRecDepth 100000 in
set_option maxHeartbeats 4000000 in
theorem refFind9_any (u : Value) (l : List Wrd) (s : ByteArray) (w : World) (hu : WRuns w u l) (hl : l.length ≤ 2000000) (hz : szW l) :
    Calls Tryd.prog 19 #[u, .string s] w fun e w' => e = .returned (.tuple #[.int .i64 (wfS l s), .int .i64 (wfE l s)]) ∧ Below w.heap.size w w' := by
  have c1 := refIs9_any u l w hu hl hz
  obtain ⟨A, c, e⟩ := hu.slice
  subst e
  by_cases h0 : wisS l = 0
  · obtain ⟨hal, hsr, _⟩ := wisS_facts h0
    have hcb := frB_of hal
    rw [wfS, wfE, if_pos h0, if_pos h0]
    rw [h0] at c1
    have hit : ∀ (k : Nat) (x : Wrd), l[k]? = some x → x.1 = s → frq l s = x.2 ∧ x.2 ≠ 0 := fun k x hx hs => ⟨by rw [← hs]; exact frq_srt hsr hcb x (List.mem_of_getElem? hx), by have := (hcb x (List.mem_of_getElem? hx)).1; omega⟩
    have miss : (∀ (k : Nat) (x : Wrd), l[k]? = some x → x.1 ≠ s) → frq l s = 0 := fun hn => (frq_zero hcb).2 (fun b hb => by
      obtain ⟨k, hk⟩ := List.getElem?_of_mem hb
      exact hn k b hk)
    obtain ⟨n, hn⟩ : ∃ n, l.length = n := ⟨_, rfl⟩
    rw [hn] at hu c1 hl ⊢
    obtain ⟨L0, hL0⟩ : ∃ z, frq l s = z := ⟨_, rfl⟩
    rw [hL0] at hit miss ⊢
    obtain ⟨er, her⟩ : ∃ z, (if L0 = 0 then (10 : Int) else 0) = z := ⟨_, rfl⟩
    rw [her]
    have C1 := Lib.hid c1; have HU := Lib.hid hu; have HIT := Lib.hid hit; have MISS := Lib.hid miss; have HN := Lib.hid hn; have HER := Lib.hid her
    clear c1 hu her hit miss hn hsr hz h0 hL0 hal hcb
    go_enter Tryd.func19, Tryd.ntmps19
    go_wp2_with fail
    refine C1.out.mono ?_
    rintro e w1 ⟨rfl, b1⟩
    have B1 := Lib.hid b1; clear b1
    go_wp2
    go_loopw [16] (fun s16 wr => ∃ k : Nat, k ≤ n ∧ s16 = .int .i64 k ∧ Hid (∀ j x, j < k → l[j]? = some x → x.1 ≠ s) ∧ Hid (Below w.heap.size w wr)) (fun s16 _ => n - (RowKit.intOf s16).toNat)
    case atStart => exact ⟨0, Nat.zero_le _, rfl, Lib.hid (fun j x hj => by omega), B1⟩
    case round =>
      obtain ⟨k, hkn, rfl, HM, BW⟩ := hrel
      by_cases hk : k < n
      · have k1 : (k : Int) < (n : Int) := by omega
        obtain ⟨⟨p1, p2⟩, hp⟩ : ∃ p, l[k]? = some p := ⟨_, List.getElem?_eq_getElem (by rw [HN.out]; exact hk)⟩
        obtain ⟨b, o, rfl, _, hc⟩ := (HU.out.below BW.out).cells HN.out (by omega)
        obtain ⟨g0, g1⟩ := wrd_cells hc hp
        simp only at g0 g1
        have HP := Lib.hid hp
        have hal : Hid (Below w.heap.size w (wr.alloc (.cells #[.string p1, .int .i64 p2] 24))) := Lib.hid (BW.out.alloc BW.out.size _)
        clear hc hp
        by_cases e1 : p1 = s
        · subst e1
          obtain ⟨h1, h2⟩ := HIT.out k _ HP.out rfl
          simp only at h1 h2
          have hr : Hid (er = 0) := Lib.hid (by rw [← HER.out, h1, if_neg h2])
          have hr2 : Hid (L0 = p2) := Lib.hid h1
          clear h1 h2
          go_wp2
          go_ret2
          exact ⟨by rw [hr.out, hr2.out]; rfl, hal.out⟩
        · have e1' : (p1.toList == s.toList) = false := by
            rw [beq_eq_false_iff_ne]
            exact fun h => e1 (key_ext (by rw [← Lib.toList_data, ← Lib.toList_data]; exact h))
          go_wp2
          exact ⟨⟨k + 1, by omega, by go_num, Lib.hid (fun j x hj hx => by
            rcases Nat.lt_or_ge j k with h | h
            · exact HM.out j x h hx
            · obtain rfl : j = k := by omega
              rw [HP.out] at hx
              obtain rfl := Option.some.inj hx
              exact e1), hal⟩, by simp [RowKit.intOf]; omega⟩
      · obtain rfl : k = n := by omega
        have h1 : L0 = 0 := MISS.out (fun j x hx => HM.out j x (by have := (List.getElem?_eq_some_iff.1 hx).1; rwa [HN.out] at this) hx)
        have hr : Hid (er = 10) := Lib.hid (by rw [← HER.out, if_pos h1])
        subst h1
        go_wp2
        go_ret2
        exact ⟨by rw [hr.out]; rfl, BW.out⟩
  · have h0' : (wisS l == 0) = false := by simpa using h0
    rw [wfS, wfE, if_neg h0, if_neg h0]
    obtain ⟨er, her⟩ : ∃ z, wisS l = z := ⟨_, rfl⟩
    rw [her] at c1 h0' ⊢
    obtain ⟨n, hn⟩ : ∃ n, l.length = n := ⟨_, rfl⟩
    rw [hn] at hu c1 hl ⊢
    have C1 := Lib.hid c1
    clear c1 hu hz h0 her hn
    go_enter Tryd.func19, Tryd.ntmps19
    go_wp2_with fail
    refine C1.out.mono ?_
    rintro e w1 ⟨rfl, b1⟩
    have B1 := Lib.hid b1; clear b1
    go_wp2
    go_ret2
    exact ⟨rfl, B1.out⟩
set_option maxRecDepth 100000 in
set_option maxHeartbeats 16000000 in
theorem refBegins9_any (u : Value) (l : List Wrd) (s : ByteArray) (w : World) (hu : WRuns w u l) (hl : l.length ≤ 2000000) (hz : szW l) (hss : s.size ≤ 2000000) :
    Calls Tryd.prog 21 #[u, .string s] w fun e w' => e = .returned (.tuple #[.int .i64 (wbgF l s), .int .i64 (wbgT l s), .int .i64 (wisS l)]) ∧ Below w.heap.size w w' := by
  have c1 := refIs9_any u l w hu hl hz
  obtain ⟨A, c, e⟩ := hu.slice
  subst e
  by_cases h0 : wisS l = 0
  · rw [wbgF, wbgT, if_pos h0, if_pos h0, h0]
    rw [h0] at c1
    have hq : ∀ t, bgF l s ≤ t → t ≤ l.length → (∀ j y, bgF l s ≤ j → j < t → l[j]? = some y → preK s y.1 = true) → (∀ y, l[t]? = some y → preK s y.1 = false) → (bgF l s : Int) + (bgN l s : Int) = (t : Int) := fun t h1 h2 h3 h4 => by
      have : bgN l s = t - bgF l s := by
        unfold bgN
        refine tw_len _ _ _ (fun j y hj hy => ?_) (by rw [List.length_drop]; omega) (fun y hy => ?_)
        · rw [List.getElem?_drop] at hy
          exact h3 _ y (by omega) (by omega) hy
        · rw [List.getElem?_drop, show bgF l s + (t - bgF l s) = t by omega] at hy
          exact h4 y hy
      omega
    have hf : ∀ k, k ≤ l.length → (∀ j y, j < k → l[j]? = some y → ltK y.1 s = true) → (∀ y, l[k]? = some y → ltK y.1 s = false) → bgF l s = k := fun k h2 h1 h3 => tw_len _ _ _ h1 h2 h3
    obtain ⟨n, hn⟩ : ∃ n, l.length = n := ⟨_, rfl⟩
    rw [hn] at hu c1 hl hq hf ⊢
    obtain ⟨rest0, hrest0⟩ : ∃ z, (bgF l s : Int) + (bgN l s : Int) = z := ⟨_, rfl⟩
    rw [hrest0] at hq ⊢
    obtain ⟨m, hm⟩ : ∃ z, bgF l s = z := ⟨_, rfl⟩
    rw [hm] at hq hf ⊢
    have C1 := Lib.hid c1; have HU := Lib.hid hu; have HN := Lib.hid hn; have HQ := Lib.hid hq; have HF := Lib.hid hf
    clear c1 hu hn hz h0 hq hf hrest0 hm
    go_enter Tryd.func21, Tryd.ntmps21
    go_wp2_with fail
    refine C1.out.mono ?_
    rintro e w1 ⟨rfl, b1⟩
    have B1 := Lib.hid b1; clear b1
    go_wp2
    go_loopw [8] (fun s8 wr => ∃ k : Nat, k ≤ n ∧ s8 = .int .i64 k ∧ Hid (∀ j y, j < k → l[j]? = some y → ltK y.1 s = true) ∧ Hid (Below w.heap.size w wr)) (fun s8 _ => n - (RowKit.intOf s8).toNat)
    case atStart => exact ⟨0, Nat.zero_le _, rfl, Lib.hid (fun j x hj => by omega), B1⟩
    case round =>
      obtain ⟨k, hkn, rfl, HM, BW⟩ := hrel
      by_cases hk : k < n
      · have k1 : (k : Int) < (n : Int) := by omega
        obtain ⟨⟨p1, p2⟩, hp⟩ : ∃ p, l[k]? = some p := ⟨_, List.getElem?_eq_getElem (by rw [HN.out]; exact hk)⟩
        obtain ⟨b, o, rfl, _, hc⟩ := (HU.out.below BW.out).cells HN.out (by omega)
        obtain ⟨g0, g1⟩ := wrd_cells hc hp
        simp only at g0 g1
        have HP := Lib.hid hp
        clear hc hp
        obtain ⟨le, hle⟩ : ∃ z, ltK p1 s = z := ⟨_, rfl⟩
        have HLE := Lib.hid hle
        unfold ltK at hle
        cases le
        · have hkm : m = k := HF.out k hkn HM.out (fun y hy => by rw [HP.out] at hy; obtain rfl := Option.some.inj hy; exact HLE.out)
          subst hkm
          clear HF HM HLE HP
          go_wp2
          clear g0 g1 hle
          go_loopw [9] (fun s9 wr => ∃ t : Nat, m ≤ t ∧ t ≤ n ∧ s9 = .int .i64 t ∧ Hid (∀ j y, m ≤ j → j < t → l[j]? = some y → preK s y.1 = true) ∧ Hid (Below w.heap.size w wr)) (fun s9 _ => n - (RowKit.intOf s9).toNat)
          case atStart => exact ⟨m, Nat.le_refl _, by omega, rfl, Lib.hid (fun j y h1 h2 => by omega), BW⟩
          case round =>
            obtain ⟨t, hmt, htn, rfl, HP, BT⟩ := hrel
            by_cases ht : t < n
            · have t1 : (t : Int) < (n : Int) := by omega
              obtain ⟨⟨x1, x2⟩, hx⟩ : ∃ p, l[t]? = some p := ⟨_, List.getElem?_eq_getElem (by rw [HN.out]; exact ht)⟩
              obtain ⟨b', o', eb, _, hc⟩ := (HU.out.below BT.out).cells HN.out (by omega)
              have eb1 := Option.some.inj eb
              simp only [Addr.mk.injEq] at eb1
              obtain ⟨rfl, rfl, _⟩ := eb1
              clear eb
              obtain ⟨g0, g1⟩ := wrd_cells hc hx
              simp only at g0 g1
              have hraw := preK_raw s x1
              have HX := Lib.hid hx
              obtain ⟨pk, hpk⟩ : ∃ z, preK s x1 = z := ⟨_, rfl⟩
              rw [hpk] at hraw
              have HPK := Lib.hid hpk
              clear hc hx hpk
              by_cases hsz : s.size ≤ x1.size
              · have sz1 : (s.size : Int) ≤ (x1.size : Int) := by omega
                have sz0 : (0 : Int) ≤ (s.size : Int) := by omega
                have hb : ((x1.extract 0 s.size).toList == s.toList) = pk := by rw [hraw, decide_eq_true hsz]; rfl
                clear hraw
                cases pk
                · have HT : Hid (∀ t', rest0 = t' → t' = (t : Int)) := Lib.hid (fun t' e => by rw [← e]; exact HQ.out t hmt htn HP.out (fun y hy => by rw [HX.out] at hy; obtain rfl := Option.some.inj hy; exact HPK.out))
                  have e1 := HT.out _ rfl
                  subst e1
                  go_wp2
                  go_ret3
                  exact ⟨rfl, BT.out⟩
                · go_wp2
                  exact ⟨⟨t + 1, by omega, by omega, by go_num, Lib.hid (fun j y h1 h2 hy => by
                    rcases Nat.lt_or_ge j t with h3 | h3
                    · exact HP.out j y h1 h3 hy
                    · obtain rfl : j = t := by omega
                      rw [HX.out] at hy; obtain rfl := Option.some.inj hy; exact HPK.out), BT⟩, by simp [RowKit.intOf]; omega⟩
              · have sz1 : ¬ (s.size : Int) ≤ (x1.size : Int) := by omega
                have hb : pk = false := by rw [hraw, decide_eq_false hsz]; rfl
                subst hb
                clear hraw
                have e1 : rest0 = (t : Int) := HQ.out t hmt htn HP.out (fun y hy => by rw [HX.out] at hy; obtain rfl := Option.some.inj hy; exact HPK.out)
                subst e1
                go_wp2
                go_ret3
                exact ⟨rfl, BT.out⟩
            · obtain rfl : t = n := by omega
              have e1 : rest0 = (t : Int) := HQ.out t hmt htn HP.out (fun y hy => by rw [List.getElem?_eq_none (by rw [HN.out]; exact Nat.le_refl _)] at hy; cases hy)
              subst e1
              have t1 : ¬ (t : Int) < (t : Int) := by omega
              go_wp2
              go_ret3
              exact ⟨rfl, BT.out⟩
        · go_wp2
          exact ⟨⟨k + 1, by omega, by go_num, Lib.hid (fun j x hj hx => by
            rcases Nat.lt_or_ge j k with h | h
            · exact HM.out j x h hx
            · obtain rfl : j = k := by omega
              rw [HP.out] at hx
              obtain rfl := Option.some.inj hx
              exact HLE.out), BW⟩, by simp [RowKit.intOf]; omega⟩
      · obtain rfl : k = n := by omega
        have hkm : m = k := HF.out k hkn HM.out (fun y hy => by rw [List.getElem?_eq_none (by rw [HN.out]; exact Nat.le_refl _)] at hy; cases hy)
        have k1 : ¬ (k : Int) < (k : Int) := by omega
        subst hkm
        clear HF HM
        go_wp2
        go_loopw [9] (fun s9 wr => s9 = .int .i64 m ∧ Hid (Below w.heap.size w wr)) (fun _ _ => 0)
        case atStart => exact ⟨rfl, BW⟩
        case round =>
          obtain ⟨rfl, BT⟩ := hrel
          have e1 : rest0 = (m : Int) := HQ.out m (Nat.le_refl _) (Nat.le_refl _) (fun j y h1 h2 => by omega) (fun y hy => by rw [List.getElem?_eq_none (by rw [HN.out]; exact Nat.le_refl _)] at hy; cases hy)
          subst e1
          go_wp2
          go_ret3
          exact ⟨rfl, BT.out⟩
  · have h0' : (wisS l == 0) = false := by simpa using h0
    rw [wbgF, wbgT, if_neg h0, if_neg h0]
    obtain ⟨er, her⟩ : ∃ z, wisS l = z := ⟨_, rfl⟩
    rw [her] at c1 h0' ⊢
    obtain ⟨n, hn⟩ : ∃ n, l.length = n := ⟨_, rfl⟩
    rw [hn] at hu c1 hl ⊢
    have C1 := Lib.hid c1
    clear c1 hu hz h0 her hn
    go_enter Tryd.func21, Tryd.ntmps21
    go_wp2_with fail
    refine C1.out.mono ?_
    rintro e w1 ⟨rfl, b1⟩
    have B1 := Lib.hid b1; clear b1
    go_wp2
    go_ret3
    exact ⟨rfl, B1.out⟩
end Go.Proofs.YtdlmjoijadkphaaDoor
