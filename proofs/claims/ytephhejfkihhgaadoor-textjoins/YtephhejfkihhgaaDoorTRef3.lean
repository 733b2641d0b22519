/- errataref02.Check, Join: the document's answers; Join's answer in one word. -/
import Derived.Test.YtephhejfkihhgaaDoorTRef2
namespace Go.Proofs.YtephhejfkihhgaaDoor
open Go.RowKit Go.Shelf

set_option maxRecDepth 100000 in
set_option maxHeartbeats 1000000 in
theorem refCheck_any (s : ByteArray) (u : Value) (l : List Sp) (w : World) (hu : SRuns w u l) :
    Calls Tryd.prog 20 #[.string s, u] w fun e w' => e = .returned (.bool (checkB s.data.toList l)) ∧ Below w.heap.size w w' := by
  have c := refSpans_any s w
  unfold checkB
  by_cases hd : docErr s.data.toList = 0
  · rw [hd] at c ⊢
    have C := Lib.hid c; clear c
    obtain ⟨ds, hds⟩ : ∃ ds, docSpans s.data.toList = ds := ⟨_, rfl⟩
    rw [hds] at C ⊢
    obtain ⟨n, hn⟩ : ∃ n, ds.length = n := ⟨_, rfl⟩
    rw [hn] at C
    clear hds hn
    obtain ⟨r, hr⟩ : ∃ r, decide (ds = l) = r := ⟨_, rfl⟩
    have HR := Lib.hid hr
    clear hd
    have hfin : (decide ((0 : Int) = 0) && decide (l = ds)) = r := by
      rw [← hr]; simp [eq_comm]
    rw [hfin]
    clear hfin hr
    go_enter Tryd.func20, Tryd.ntmps20
    go_wp2_with fail
    refine C.out.mono ?_
    rintro e w1 ⟨A, c, rfl, hr1, hb1⟩
    have ce := same2_any _ _ _ _ w1 hr1 (hu.below hb1)
    rw [HR.out] at ce
    have CE := Lib.hid ce
    clear ce
    go_wp2_with (go_at_call 15; refine CE.out.mono ?_; rintro e w2 ⟨rfl, hd2⟩)
    go_ret
    exact ⟨by simp, hb1.trans ((hd2.below _).mono hb1.size)⟩
  · have hz : (decide (docErr s.data.toList = 0) && decide (l = docSpans s.data.toList)) = false := by simp [hd]
    rw [hz]
    obtain ⟨er, her⟩ : ∃ er, docErr s.data.toList = er := ⟨_, rfl⟩
    rw [her] at c hd
    have C := Lib.hid c; clear c
    have h1 : (er == 0) = false := by simpa using hd
    clear hz her hd
    go_enter Tryd.func20, Tryd.ntmps20
    go_wp2_with fail
    refine C.out.mono ?_
    rintro e w1 ⟨A, c, rfl, hr1, hb1⟩
    go_wp2
    go_ret
    exact ⟨by simp, hb1⟩

/-- What Join answers: the text, and the error. -/
def jnS (s : ByteArray) (l : List Sp) (ts : List ByteArray) : ByteArray := if checkB s.data.toList l then (if ts.length = cnt l l.length then ⟨(joinP s l ts l.length).toArray⟩ else ⟨#[]⟩) else ⟨#[]⟩
def jnE (s : ByteArray) (l : List Sp) (ts : List ByteArray) : Int := if checkB s.data.toList l then (if ts.length = cnt l l.length then 0 else 2) else 7
theorem join_any (s : ByteArray) (u v : Value) (l : List Sp) (ts : List ByteArray) (w : World) (h : Okw w) (hu : SRuns w u l) (hv : TRuns w v ts) (ht : ∀ t ∈ ts, t.size ≤ 1048576) :
    Calls Tryd.prog 17 #[.string s, u, v] w fun e w' => e = .returned (.tuple #[.string (jnS s l ts), .int .i64 (jnE s l ts)]) ∧ Below w.heap.size w w' := by
  unfold jnS jnE
  cases hc : checkB s.data.toList l
  · simpa using join_form s u v l w h hu hc
  · by_cases hl : ts.length = cnt l l.length
    · simpa [hl] using join_ok s u v l ts w h hu hv hc hl ht
    · simpa [hl] using join_arg s u v l ts w h hu hv hc hl

set_option maxRecDepth 100000 in
set_option maxHeartbeats 2000000 in
theorem refJoin_any (s : ByteArray) (u v : Value) (l : List Sp) (ts : List ByteArray) (w : World) (hu : SRuns w u l) (hv : TRuns w v ts) (ht : ∀ t ∈ ts, t.size ≤ 1048576) :
    Calls Tryd.prog 18 #[.string s, u, v] w fun e w' => e = .returned (.tuple #[.string (jnS s l ts), .int .i64 (jnE s l ts)]) ∧ Below w.heap.size w w' := by
  have c := refCheck_any s u l w hu
  cases hc : checkB s.data.toList l
  · have e1 : jnS s l ts = ⟨#[]⟩ := by unfold jnS; rw [hc]; rfl
    have e2 : jnE s l ts = 7 := by unfold jnE; rw [hc]; rfl
    rw [e1, e2]
    rw [hc] at c
    have C := Lib.hid c
    clear c hc e1 e2
    go_enter Tryd.func18, Tryd.ntmps18
    go_wp2_with fail
    refine C.out.mono ?_
    rintro e w1 ⟨rfl, hb1⟩
    go_wp2
    go_ret2
    exact ⟨rfl, hb1⟩
  · rw [hc] at c
    have C := Lib.hid c
    have hck : docErr s.data.toList = 0 ∧ l = docSpans s.data.toList := by unfold checkB at hc; simpa using hc
    have hsz := (doc_ok s hck.1).1
    have hin := docSpans_in s
    have hll := docSpans_len s
    rw [← hck.2] at hin hll
    have hcle := cnt_le l
    have hjle := joinP_le s l ts hsz ht
    have hple := part_le s l ts hsz ht
    have hfin : jnS s l ts = (if ts.length = cnt l l.length then ⟨(joinP s l ts l.length).toArray⟩ else ⟨#[]⟩) ∧ jnE s l ts = if ts.length = cnt l l.length then 0 else 2 := by unfold jnS jnE; rw [hc]; exact ⟨rfl, rfl⟩
    obtain ⟨A, c, rfl, hxc, ⟨hxm, _⟩, hxx⟩ := hu
    obtain ⟨A2, c2, rfl, hyc, ⟨hym, _⟩, hyy⟩ := hv
    unfold maxLen at hxm hym
    obtain ⟨n, hn⟩ : ∃ n, l.length = n := ⟨_, rfl⟩
    obtain ⟨m, hm⟩ : ∃ m, ts.length = m := ⟨_, rfl⟩
    rw [hn, hm] at hfin
    rw [hn] at hxc hxx hll C ⊢
    rw [hm] at hyc hyy ⊢
    obtain ⟨Z, hZ⟩ : ∃ Z, jnS s l ts = Z := ⟨_, rfl⟩
    obtain ⟨ez, hez⟩ : ∃ ez, jnE s l ts = ez := ⟨_, rfl⟩
    rw [hZ, hez] at hfin ⊢
    have Hn := Lib.hid hn; have Hm := Lib.hid hm
    have HX := Lib.hid hxx; have HY := Lib.hid hyy
    have HIN := Lib.hid hin; have HCL := Lib.hid hcle; have HJL := Lib.hid hjle; have HPL := Lib.hid hple; have HF := Lib.hid hfin
    clear hn hm hxx hyy hin hcle hjle hple hfin hZ hez hck hc ht
    go_enter Tryd.func18, Tryd.ntmps18
    go_wp2_with fail
    refine C.out.mono ?_
    rintro e w1 ⟨rfl, hb1⟩
    go_wp2
    go_loopw [8, 9, 18] (fun s8 s9 s18 wr => ∃ (k : Nat) (Y : ByteArray), k ≤ n ∧ s18 = .int .i64 k ∧ s9 = .int .i64 (cnt l k) ∧ s8 = .string Y ∧ Hid (Y.data.toList = joinP s l ts k) ∧ Below w1.heap.size w1 wr) (fun _ _ s18 _ => n - (intOf s18).toNat)
    case atStart => exact ⟨0, ⟨#[]⟩, Nat.zero_le _, rfl, rfl, rfl, Lib.hid rfl, Below.refl _ _⟩
    case round =>
      obtain ⟨k, Y, hk, rfl, rfl, rfl, HI, hB⟩ := hrel
      have hBw : Below w.heap.size w wr := hb1.trans (hB.mono hb1.size)
      by_cases hlt : k < n
      · obtain ⟨b, o, rfl, hb, hc1⟩ := HX.out (by omega)
        obtain ⟨e1, e2, e3⟩ := hc1 k hlt
        have g1 := (hBw.cell (p := ⟨b, o + k * 3, none⟩) hb).trans e1
        have g2 := (hBw.cell (p := ⟨b, o + k * 3 + 1, none⟩) hb).trans e2
        have g3 := (hBw.cell (p := ⟨b, o + k * 3 + 2, none⟩) hb).trans e3
        clear e1 e2 e3 hc1
        have t1 := cnt_succ l k (by rw [Hn.out]; exact hlt)
        have t2 := HCL.out k
        have q := HIN.out (l.getD k sp0) (by rw [List.getD_eq_getElem?_getD, List.getElem?_eq_getElem (by rw [Hn.out]; exact hlt)]; simp)
        have jp : joinP s l ts (k + 1) = joinP s l ts k ++ (partS s l ts k).data.toList := rfl
        have pe : partS s l ts k = if (l.getD k sp0).2.2 then ts.getD (cnt l k) ⟨#[]⟩ else s.extract (l.getD k sp0).1.toNat (l.getD k sp0).2.1.toNat := rfl
        obtain ⟨d, hd⟩ : ∃ d, cnt l k = d := ⟨_, rfl⟩
        rw [hd] at t1 t2 pe ⊢
        obtain ⟨⟨p1, p2, p3⟩, hp⟩ : ∃ p, l.getD k sp0 = p := ⟨_, rfl⟩
        have hp' : l.getD k (0, 0, false) = (p1, p2, p3) := hp
        rw [hp'] at g1 g2 g3
        rw [hp] at t1 q pe
        obtain ⟨q1, q2, q3⟩ := q
        dsimp only at q1 q2 q3 pe t1 g1 g2 g3
        have i1 : (k : Int) < (n : Int) := by omega
        clear hp hp' hd
        have hB1 : Below w1.heap.size w1 (wr.alloc (.cells #[.int .i64 p1, .int .i64 p2, .bool p3] 43)) := hB.alloc hB.size _
        have hYs : Y.size ≤ 1099511627776 := by
          have h1 := HJL.out k
          rw [← HI.out, ← Lib.size_eq] at h1; omega
        have hPs := HPL.out k
        cases p3
        · rw [if_neg (by simp)] at pe
          have hx : (s.extract p1.toNat p2.toNat).size ≤ 1048576 := by rw [← pe]; exact hPs
          have hcat : ¬ (9223372036854775807 : Int) < (Y.size : Int) + ((s.extract p1.toNat p2.toNat).size : Int) := by omega
          obtain ⟨X, hX⟩ : ∃ X, s.extract p1.toNat p2.toNat = X := ⟨_, rfl⟩
          rw [hX] at hx hcat pe
          have T1 := Lib.hid t1; have PE := Lib.hid pe; have JP := Lib.hid jp
          clear t1 pe jp hPs
          go_wp2
          go_roundw
          case rel => exact ⟨k + 1, Y ++ X, by omega, by go_num, by rw [T1.out]; rfl, rfl, Lib.hid (by rw [app_toList, JP.out, PE.out, HI.out]), hB1⟩
          case measure => simp [intOf]; omega
        · rw [if_pos rfl] at pe t1
          by_cases hdm : d < m
          · obtain ⟨b2, o2, rfl, hb2, hc2⟩ := HY.out (by omega)
            have f1 := ((hBw.alloc hBw.size (.cells #[.int .i64 p1, .int .i64 p2, .bool true] 43)).cell (p := ⟨b2, o2 + d, none⟩) hb2).trans (hc2 d hdm)
            rw [← pe] at f1
            obtain ⟨X, hX⟩ : ∃ X, partS s l ts k = X := ⟨_, rfl⟩
            rw [hX] at f1 jp hPs
            have hcat : ¬ (9223372036854775807 : Int) < (Y.size : Int) + (X.size : Int) := by omega
            have T1 := Lib.hid t1; have JP := Lib.hid jp
            clear t1 pe jp hX hc2
            have i2 : (d : Int) < (m : Int) := by omega
            go_wp2
            go_roundw
            case rel => exact ⟨k + 1, Y ++ X, by omega, by go_num, by rw [T1.out]; go_num, rfl, Lib.hid (by rw [app_toList, JP.out, HI.out]), hB1⟩
            case measure => simp [intOf]; omega
          · have hpz : partS s l ts k = ⟨#[]⟩ := by
              rw [pe, List.getD_eq_getElem?_getD, List.getElem?_eq_none (by rw [Hm.out]; omega)]; rfl
            rw [hpz] at jp
            have T1 := Lib.hid t1; have JP := Lib.hid jp
            clear t1 pe jp hpz
            have i2 : decide ((d : Int) < (m : Int)) = false := by simp; omega
            have i3 : ¬ (d : Int) < (m : Int) := by omega
            go_wp2
            go_roundw
            case rel => exact ⟨k + 1, Y, by omega, by go_num, by rw [T1.out]; go_num, rfl, Lib.hid (by rw [JP.out, HI.out]; simp), hB1⟩
            case measure => simp [intOf]; omega
      · obtain rfl : n = k := by omega
        obtain ⟨f1, f2⟩ := HF.out
        obtain ⟨d, hd⟩ : ∃ d, cnt l n = d := ⟨_, rfl⟩
        have t2 := HCL.out n
        rw [hd] at f1 f2 t2 ⊢
        by_cases hdm : m = d
        · subst hdm
          rw [if_pos rfl] at f1 f2
          have hY : Y = Z := by rw [f1]; exact str_ext (by rw [HI.out])
          subst hY
          subst f2
          clear f1 hd
          go_wp2
          go_ret2
          exact ⟨rfl, hBw⟩
        · rw [if_neg hdm] at f1 f2
          subst f1
          subst f2
          have i2 : ((d : Int) == (m : Int)) = false := by simp; omega
          clear hd
          go_wp2
          go_ret2
          exact ⟨rfl, hBw⟩
end Go.Proofs.YtephhejfkihhgaaDoor
