/- align.Read, Check: what they answer at steps. -/
import Derived.Test.YthigbnklekdemaaDoorGRead
namespace Go.Proofs.YthigbnklekdemaaDoor
open Go.RowKit Go.Shelf

set_option maxRecDepth 100000 in
set_option maxHeartbeats 8000000 in
theorem read_any (l : List St) (hl : l.length ≤ 1000000) (hfit : stFit l) : ReadAt l := by
  intro w u hO hu
  have FA := Lib.hid (fit_A l hfit)
  have FB := Lib.hid (fit_B l hfit)
  clear hfit hO
  obtain ⟨ra, hra⟩ : ∃ r, readA l = r := ⟨_, rfl⟩
  obtain ⟨rb, hrb⟩ : ∃ r, readB l = r := ⟨_, rfl⟩
  obtain ⟨er, her⟩ : ∃ r, stErr l = r := ⟨_, rfl⟩
  rw [hra, hrb, her]
  have HRA := Lib.hid hra; clear hra
  have HRB := Lib.hid hrb; clear hrb
  have HER := Lib.hid her; clear her
  obtain ⟨A, c, rfl, hxc, ⟨hxm, _⟩, hxx⟩ := hu
  unfold maxLen at hxm
  obtain ⟨n, hn⟩ : ∃ n, l.length = n := ⟨_, rfl⟩
  rw [hn] at hxc hxx hl ⊢
  have HN := Lib.hid hn; clear hn
  have HX := Lib.hid hxx; clear hxx
  go_enter Tryd.func15, Tryd.ntmps15
  go_wp2
  go_loopg [5, 6, 15] n (fun g s5 s6 s15 wr => ∃ k : Nat, s15 = .int .i64 k ∧ k ≤ n ∧ n - k ≤ g ∧ Hid (Two wr w.heap.size s5 (stA (l.take k)) s6 (stB (l.take k))) ∧ Hid ((l.take k).all stForm = true) ∧ Hid (Below w.heap.size w wr))
  case atStart => exact ⟨0, rfl, by omega, by omega, Lib.hid ⟨World.ownsRow_nil _ _ _ _, World.ownsRow_nil _ _ _ _, .inl rfl⟩, Lib.hid rfl, Lib.hid (Below.refl _ _)⟩
  case round =>
    obtain ⟨k, rfl, hk, hg, H2, HF, HB⟩ := hrel
    by_cases h : k < n
    · have h' : (k : Int) < (n : Int) := by omega
      obtain ⟨b, o, rfl, hb, hcell⟩ := HX.out (by omega)
      obtain ⟨e0, e1, e2⟩ := hcell k h
      clear hcell
      have HSA := Lib.hid (stA_take l k (by rw [HN.out]; exact h))
      have HSB := Lib.hid (stB_take l k (by rw [HN.out]; exact h))
      have HFT := Lib.hid (form_take l k (by rw [HN.out]; exact h))
      have HNO := Lib.hid (form_no l k (by rw [HN.out]; exact h))
      have la := stA_len (l.take k)
      have lb := stB_len (l.take k)
      rw [List.length_take] at la lb
      obtain ⟨⟨kd, pa, pb⟩, hp⟩ : ∃ p, l.getD k (0, 0, 0) = p := ⟨_, rfl⟩
      rw [hp] at e0 e1 e2 HSA HSB HFT HNO
      simp only at e0 e1 e2
      have f0 : wr.cell? ⟨b, o + k * 3, none⟩ = some (.int .i64 kd) := (HB.out.cell (show b < w.heap.size from hb)).trans e0
      have f1 : wr.cell? ⟨b, o + k * 3 + 1, none⟩ = some (.int .i32 pa) := (HB.out.cell (show b < w.heap.size from hb)).trans e1
      have f2 : wr.cell? ⟨b, o + k * 3 + 2, none⟩ = some (.int .i32 pb) := (HB.out.cell (show b < w.heap.size from hb)).trans e2
      clear e0 e1 e2 hp
      have cf := formed_any kd pa pb (wr.alloc (.cells #[.int .i64 kd, .int .i32 pa, .int .i32 pb] 42))
      cases hf : stForm (kd, pa, pb) with
      | false =>
        rw [hf] at cf
        have G0 := Lib.hid (HNO.out hf)
        have hra : ra = [] := by rw [← HRA.out, readA, G0.out]; rfl
        have hrb : rb = [] := by rw [← HRB.out, readB, G0.out]; rfl
        have her : er = 7 := by rw [← HER.out, stErr, G0.out]; rfl
        subst hra hrb her
        clear hf HNO HFT HSA HSB G0 HRA HRB HER
        go_wp2_with fail
        refine cf.mono ?_
        rintro e w3 ⟨rfl, hw3⟩
        have B3 : Hid (Below w.heap.size w w3) := Lib.hid (by rw [hw3]; exact (HB.out.alloc HB.out.size _).alloc (by have := HB.out.size; simp; omega) _)
        clear hw3
        go_wp2
        exact bodyPost_ret (v := .tuple #[.string ⟨#[]⟩, .string ⟨#[]⟩, .int .i64 7]) (by simp [results, Tryd.results15, go_sem]) rfl ⟨rfl, B3.out⟩
      | true =>
        rw [hf] at cf
        have HFn : Hid ((l.take (k + 1)).all stForm = true) := Lib.hid (by rw [HFT.out, HF.out, hf]; rfl)
        clear hf HNO HFT
        obtain ⟨w3, hw3⟩ : ∃ w3, w3 = (wr.alloc (.cells #[.int .i64 kd, .int .i32 pa, .int .i32 pb] 42)).alloc (.cells #[.int .i64 kd, .int .i32 pa, .int .i32 pb] 42) := ⟨_, rfl⟩
        have hz3 : w3.heap.size = wr.heap.size + 1 + 1 := by rw [hw3]; simp
        have hba : Below (wr.heap.size + 1) (wr.alloc (.cells #[.int .i64 kd, .int .i32 pa, .int .i32 pb] 42)) w3 := by rw [hw3]; exact (Below.refl _ _).alloc (by simp) _
        have d0 : w3.cell? ⟨wr.heap.size, 0, none⟩ = some (.int .i64 kd) := (hba.cell (p := ⟨wr.heap.size, 0, none⟩) (by simp)).trans (by simp)
        have d1 : w3.cell? ⟨wr.heap.size, 1, none⟩ = some (.int .i32 pa) := (hba.cell (p := ⟨wr.heap.size, 1, none⟩) (by simp)).trans (by simp)
        have d2 : w3.cell? ⟨wr.heap.size, 2, none⟩ = some (.int .i32 pb) := (hba.cell (p := ⟨wr.heap.size, 2, none⟩) (by simp)).trans (by simp)
        have H3 : Hid (Two w3 w.heap.size u5 (stA (l.take k)) u6 (stB (l.take k))) := Lib.hid (by rw [hw3]; exact (H2.out.alloc _).alloc _)
        have HB3 : Hid (Below w.heap.size w w3) := Lib.hid (by rw [hw3]; exact (HB.out.alloc HB.out.size _).alloc (by have := HB.out.size; simp; omega) _)
        have hzb := HB.out.size
        have hne : u5.ownBlock ≠ some wr.heap.size := fun e => Nat.lt_irrefl _ (own_lt H2.out.1 _ e)
        rw [← hw3] at cf
        obtain ⟨xa, hxa⟩ : ∃ xa, stA (l.take k) = xa := ⟨_, rfl⟩
        obtain ⟨xb, hxb⟩ : ∃ xb, stB (l.take k) = xb := ⟨_, rfl⟩
        rw [hxa] at H3 HSA la
        rw [hxb] at H3 HSB lb
        clear hxa hxb H2 hw3 hba
        go_wp2_with fail
        refine cf.mono ?_
        rintro e w3' ⟨rfl, hw3'⟩
        have hw3 := hw3'.symm; clear hw3'; subst hw3
        clear cf f0 f1 f2
        by_cases h3 : kd = 3
        · subst h3
          have HSA' : Hid (stA (l.take (k + 1)) = xa) := Lib.hid (by rw [HSA.out]; simp [stA])
          have HSB' : Hid (stB (l.take (k + 1)) = xb ++ [pb]) := Lib.hid (by rw [HSB.out]; simp [stB])
          obtain ⟨v5, w5, hrun, hT5, hb5, _, _⟩ := Two.append H3.out.swap pb (by omega) (by omega)
          rw [hz3] at hrun
          have HR := Lib.hid hrun; clear hrun
          have H5 := Lib.hid hT5.swap; clear hT5
          have HB5 : Hid (Below w.heap.size w w5) := Lib.hid (HB3.out.trans hb5); clear hb5
          clear H3 HB3 hne
          go_wp2_with (at_builtin; refine wpList_append_run (.tmp 33) (.tmp 36) 37 _ _ _ _ HR.out rfl rfl rfl rfl ?_)
          go_roundg (n - (k + 1))
          case measure => omega
          case rel => exact ⟨k + 1, rfl, by omega, by omega, Lib.hid (by rw [HSA'.out, HSB'.out]; exact H5.out), HFn, HB5⟩
        · obtain ⟨v5, w5, hrun, hT5, hb5, hz5, hk5⟩ := Two.append H3.out pa (by omega) (by omega)
          rw [hz3] at hrun
          have HR := Lib.hid hrun; clear hrun
          have g0 : w5.cell? ⟨wr.heap.size, 0, none⟩ = some (.int .i64 kd) := (World.cell?_of_block (w := w3) (hk5 wr.heap.size (by omega) hne)).trans d0
          have g2 : w5.cell? ⟨wr.heap.size, 2, none⟩ = some (.int .i32 pb) := (World.cell?_of_block (w := w3) (hk5 wr.heap.size (by omega) hne)).trans d2
          have H5 := Lib.hid hT5; clear hT5
          have HB5 : Hid (Below w.heap.size w w5) := Lib.hid (HB3.out.trans hb5)
          have hz5' : w.heap.size ≤ w5.heap.size := HB5.out.size
          clear hb5 hk5 H3 HB3 hne hz5
          by_cases h2 : kd = 2
          · subst h2
            have HSA' : Hid (stA (l.take (k + 1)) = xa ++ [pa]) := Lib.hid (by rw [HSA.out]; simp [stA])
            have HSB' : Hid (stB (l.take (k + 1)) = xb) := Lib.hid (by rw [HSB.out]; simp [stB])
            go_wp2_with (at_builtin; refine wpList_append_run (.tmp 25) (.tmp 28) 37 _ _ _ _ HR.out rfl rfl rfl rfl ?_)
            go_roundg (n - (k + 1))
            case measure => omega
            case rel => exact ⟨k + 1, rfl, by omega, by omega, Lib.hid (by rw [HSA'.out, HSB'.out]; exact H5.out), HFn, HB5⟩
          · have HSA' : Hid (stA (l.take (k + 1)) = xa ++ [pa]) := Lib.hid (by rw [HSA.out]; simp [stA, h3])
            have HSB' : Hid (stB (l.take (k + 1)) = xb ++ [pb]) := Lib.hid (by rw [HSB.out]; simp [stB, h2])
            obtain ⟨v6, w6, hrun6, hT6, hb6, _, _⟩ := Two.append H5.out.swap pb hz5' (by omega)
            have HR6 := Lib.hid hrun6; clear hrun6
            have H6 := Lib.hid hT6.swap; clear hT6
            have HB6 : Hid (Below w.heap.size w w6) := Lib.hid (HB5.out.trans hb6); clear hb6
            clear hz5'
            go_wp2_with (at_builtin; first | refine wpList_append_run (.tmp 25) (.tmp 28) 37 _ _ _ _ HR.out rfl rfl rfl rfl ?_ | refine wpList_append_run (.tmp 33) (.tmp 36) 37 _ _ _ _ HR6.out rfl rfl rfl rfl ?_)
            go_roundg (n - (k + 1))
            case measure => omega
            case rel => exact ⟨k + 1, rfl, by omega, by omega, Lib.hid (by rw [HSA'.out, HSB'.out]; exact H6.out), HFn, HB6⟩
    · obtain rfl : k = n := by omega
      have H2' := H2.out
      have hF := HF.out
      rw [List.take_of_length_le (by rw [HN.out]; exact Nat.le_refl _)] at H2' hF
      have hgd := good_all l hF
      have la := stA_len l
      have lb := stB_len l
      rw [HN.out] at la lb
      have ra1 := Runs.of_own H2'.1
      have rb1 := Runs.of_own H2'.2.1
      have ta := encode_any u5 (stA l) wr ra1 (by omega) FA.out
      have RB := Lib.hid rb1; clear rb1
      have tb := fun (w' : World) (hb : Below wr.heap.size wr w') => encode_any u6 (stB l) w' (RB.out.below hb) (by omega) FB.out
      have TBB := Lib.hid tb; clear tb ra1 H2 H2' la lb hF
      unfold encErr at ta TBB
      cases hA : allRunes (stA l) with
      | false =>
        have G0 : l.all stGood = false := by rw [hgd, hA]; rfl
        have hra : ra = [] := by rw [← HRA.out, readA, G0]; rfl
        have hrb : rb = [] := by rw [← HRB.out, readB, G0]; rfl
        have her : er = 7 := by rw [← HER.out, stErr, G0]; rfl
        subst hra hrb her
        rw [hA] at ta
        obtain ⟨ea, hea⟩ : ∃ e, encS (stA l) = e := ⟨_, rfl⟩
        obtain ⟨eb, heb⟩ : ∃ e, encS (stB l) = e := ⟨_, rfl⟩
        obtain ⟨er2, her2⟩ : ∃ e : Int, (if allRunes (stB l) = true then (0 : Int) else 3) = e := ⟨_, rfl⟩
        rw [hea] at ta
        simp only [heb, her2] at TBB
        simp only [Bool.false_eq_true, if_false] at ta
        clear G0 hgd hA hea heb HRA HRB HER her2
        go_wp2_with fail
        refine ta.mono ?_
        rintro e w5 ⟨rfl, b5⟩
        have t2 := TBB.out w5 b5
        have B5 := Lib.hid b5; clear b5 ta
        go_wp2_with fail
        refine t2.mono ?_
        rintro e w6 ⟨rfl, b6⟩
        have B6 := Lib.hid b6; clear b6 t2
        go_wp2
        refine bodyPost_ret (v := .tuple #[.string ⟨#[]⟩, .string ⟨#[]⟩, .int .i64 7]) (by simp [results, Tryd.results15, go_sem]) rfl ⟨rfl, ?_⟩
        exact HB.out.trans ((B5.out.mono HB.out.size).trans (B6.out.mono (Nat.le_trans HB.out.size B5.out.size)))
      | true =>
        rw [hA] at ta
        cases hB : allRunes (stB l) with
        | false =>
          have G0 : l.all stGood = false := by rw [hgd, hA, hB]; rfl
          have hra : ra = [] := by rw [← HRA.out, readA, G0]; rfl
          have hrb : rb = [] := by rw [← HRB.out, readB, G0]; rfl
          have her : er = 7 := by rw [← HER.out, stErr, G0]; rfl
          subst hra hrb her
          rw [hB] at TBB
          obtain ⟨ea, hea⟩ : ∃ e, encS (stA l) = e := ⟨_, rfl⟩
          obtain ⟨eb, heb⟩ : ∃ e, encS (stB l) = e := ⟨_, rfl⟩
          rw [hea] at ta
          simp only [heb, Bool.false_eq_true, if_false] at TBB
          simp only [if_true] at ta
          clear G0 hgd hA hB hea heb HRA HRB HER
          go_wp2_with fail
          refine ta.mono ?_
          rintro e w5 ⟨rfl, b5⟩
          have t2 := TBB.out w5 b5
          have B5 := Lib.hid b5; clear b5 ta
          go_wp2_with fail
          refine t2.mono ?_
          rintro e w6 ⟨rfl, b6⟩
          have B6 := Lib.hid b6; clear b6 t2
          go_wp2
          refine bodyPost_ret (v := .tuple #[.string ⟨#[]⟩, .string ⟨#[]⟩, .int .i64 7]) (by simp [results, Tryd.results15, go_sem]) rfl ⟨rfl, ?_⟩
          exact HB.out.trans ((B5.out.mono HB.out.size).trans (B6.out.mono (Nat.le_trans HB.out.size B5.out.size)))
        | true =>
          have G0 : l.all stGood = true := by rw [hgd, hA, hB]; rfl
          have hra : encS (stA l) = ra := by rw [← HRA.out, readA, G0]; rfl
          have hrb : encS (stB l) = rb := by rw [← HRB.out, readB, G0]; rfl
          have her : er = 0 := by rw [← HER.out, stErr, G0]; rfl
          subst her
          rw [hB] at TBB
          rw [hra] at ta
          simp only [hrb, if_true] at TBB
          simp only [if_true] at ta
          clear G0 hgd hA hB hra hrb HRA HRB HER
          go_wp2_with fail
          refine ta.mono ?_
          rintro e w5 ⟨rfl, b5⟩
          have t2 := TBB.out w5 b5
          have B5 := Lib.hid b5; clear b5 ta
          go_wp2_with fail
          refine t2.mono ?_
          rintro e w6 ⟨rfl, b6⟩
          have B6 := Lib.hid b6; clear b6 t2
          go_wp2
          refine bodyPost_ret (v := .tuple #[.string ⟨ra.toArray⟩, .string ⟨rb.toArray⟩, .int .i64 0]) (by simp [results, Tryd.results15, go_sem]) rfl ⟨rfl, ?_⟩
          exact HB.out.trans ((B5.out.mono HB.out.size).trans (B6.out.mono (Nat.le_trans HB.out.size B5.out.size)))

set_option maxRecDepth 100000 in
set_option maxHeartbeats 4000000 in
theorem check_any (l : List St) (hl : l.length ≤ 1000000) (hfit : stFit l) : CheckAt l := by
  intro w u hO hu
  have c := read_any l hl hfit w u hO hu
  obtain ⟨ra, hra⟩ : ∃ r, readA l = r := ⟨_, rfl⟩
  obtain ⟨rb, hrb⟩ : ∃ r, readB l = r := ⟨_, rfl⟩
  obtain ⟨er, her⟩ : ∃ r, stErr l = r := ⟨_, rfl⟩
  rw [hra, hrb, her] at c
  rw [her]
  clear hra hrb her hfit hO
  obtain ⟨A, cc, rfl, _, _, _⟩ := hu
  go_enter Tryd.func17, Tryd.ntmps17
  go_wp2_with fail
  refine c.mono ?_
  rintro e w1 ⟨rfl, b1⟩
  have B1 := Lib.hid b1; clear b1 c
  go_wp2
  go_ret
  exact ⟨rfl, B1.out⟩
end Go.Proofs.YthigbnklekdemaaDoor
