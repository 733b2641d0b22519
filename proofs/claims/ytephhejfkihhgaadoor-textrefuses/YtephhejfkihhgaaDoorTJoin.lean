/- text.Check, text.countTokens, text.Join: what each answers. -/
import Derived.Test.YtephhejfkihhgaaDoorTCheck
import Derived.Test.YtephhejfkihhgaaDoorWriteS
import Derived.Lib.OthersKept
namespace Go.Proofs.YtephhejfkihhgaaDoor
open Go.RowKit Go.Shelf

abbrev sp0 : Sp := (0, 0, false)
/-- How many of the first k pieces are tokens. -/
def cnt (l : List Sp) (k : Nat) : Nat := ((l.take k).filter (fun p => p.2.2)).length
theorem cnt_zero (l : List Sp) : cnt l 0 = 0 := rfl
theorem cnt_succ (l : List Sp) (k : Nat) (h : k < l.length) : cnt l (k + 1) = cnt l k + (if (l.getD k sp0).2.2 then 1 else 0) := by
  unfold cnt
  rw [List.take_succ_eq_append_getElem h, List.filter_append, List.length_append]
  have e : l.getD k sp0 = l[k] := by simp [List.getD_eq_getElem?_getD, h]
  rw [e]
  cases hb : l[k].2.2 <;> simp [hb]
theorem cnt_le (l : List Sp) (k : Nat) : cnt l k ≤ k := by
  unfold cnt
  refine Nat.le_trans (List.length_filter_le _ _) ?_
  rw [List.length_take]; exact Nat.min_le_left _ _
theorem cnt_mono (l : List Sp) (k m : Nat) (h : k ≤ m) (hm : m ≤ l.length) : cnt l k ≤ cnt l m := by
  induction m with
  | zero => obtain rfl : k = 0 := by omega
            exact Nat.le_refl _
  | succ m ih =>
    by_cases e : k = m + 1
    · rw [e]; exact Nat.le_refl _
    · have := cnt_succ l m (by omega)
      have := ih (by omega) (by omega)
      omega
theorem cnt_all (l : List Sp) : cnt l l.length = (l.filter (fun p => p.2.2)).length := by unfold cnt; rw [List.take_length]

/-- What stands in the place of piece k. -/
def partS (s : ByteArray) (l : List Sp) (ts : List ByteArray) (k : Nat) : ByteArray :=
  if (l.getD k sp0).2.2 then ts.getD (cnt l k) ⟨#[]⟩ else s.extract (l.getD k sp0).1.toNat (l.getD k sp0).2.1.toNat
def joinP (s : ByteArray) (l : List Sp) (ts : List ByteArray) : Nat → List UInt8
  | 0 => []
  | k + 1 => joinP s l ts k ++ (partS s l ts k).data.toList
theorem part_le (s : ByteArray) (l : List Sp) (ts : List ByteArray) (hs : s.size ≤ 1048576) (ht : ∀ t ∈ ts, t.size ≤ 1048576) (k : Nat) : (partS s l ts k).size ≤ 1048576 := by
  unfold partS
  split
  · by_cases h : cnt l k < ts.length
    · have : ts.getD (cnt l k) ⟨#[]⟩ = ts[cnt l k] := by simp [List.getD_eq_getElem?_getD, h]
      rw [this]; exact ht _ (List.getElem_mem h)
    · have : ts.getD (cnt l k) ⟨#[]⟩ = ⟨#[]⟩ := by simp [List.getD_eq_getElem?_getD, Nat.le_of_not_lt h]
      rw [this]; decide
  · simp; omega
theorem joinP_le (s : ByteArray) (l : List Sp) (ts : List ByteArray) (hs : s.size ≤ 1048576) (ht : ∀ t ∈ ts, t.size ≤ 1048576) (k : Nat) : (joinP s l ts k).length ≤ k * 1048576 := by
  induction k with
  | zero => simp [joinP]
  | succ k ih =>
    have := part_le s l ts hs ht k
    rw [Lib.size_eq] at this
    simp only [joinP, List.length_append]; omega

/-- Every piece lies within the text. -/
theorem sp_in (b : Bool) (xs : List Int) : ∀ (f a : Nat), f ≤ a → ∀ p ∈ sp f a b xs, (f : Int) ≤ p.1 ∧ p.1 ≤ p.2.1 ∧ p.2.1 ≤ ((a + (encL xs).length : Nat) : Int) := by
  induction xs generalizing b with
  | nil => intro f a h p hp; simp [sp] at hp; subst hp; simp [encL]; omega
  | cons r xs ih =>
    intro f a h p hp
    unfold sp at hp
    have hl : (encL (r :: xs)).length = rl r + (encL xs).length := by rw [encL_cons, List.length_append]; rfl
    rw [hl]
    by_cases hb : letterB r = b
    · rw [if_pos hb] at hp
      have := ih b f (a + rl r) (by omega) p hp
      refine ⟨this.1, this.2.1, ?_⟩
      have h2 := this.2.2; omega
    · rw [if_neg hb] at hp
      rcases List.mem_cons.1 hp with rfl | hp
      · simp; omega
      · have := ih (letterB r) a (a + rl r) (by omega) p hp
        refine ⟨?_, this.2.1, ?_⟩
        · have h1 := this.1; omega
        · have h2 := this.2.2; omega
theorem spans_in (l : List UInt8) (hv : Lib.validD l = true) : ∀ p ∈ spansL l, 0 ≤ p.1 ∧ p.1 ≤ p.2.1 ∧ p.2.1 ≤ (l.length : Int) := by
  unfold spansL
  have he := congrArg List.length (enc_items l hv)
  cases h : items l with
  | nil => intro p hp; simp [spansFrom] at hp
  | cons r xs =>
    rw [h] at he
    intro p hp
    have := sp_in (letterB r) xs 0 (0 + rl r) (Nat.zero_le _) p hp
    rw [encL_cons, List.length_append] at he
    have hr : rl r = (Lib.encodeRune r).length := rfl
    refine ⟨by simpa using this.1, this.2.1, ?_⟩
    have h2 := this.2.2; omega

def checkB (L : List UInt8) (l : List Sp) : Bool := decide (docErr L = 0) && decide (l = docSpans L)

set_option maxRecDepth 100000 in
set_option maxHeartbeats 1000000 in
theorem check_any (s : ByteArray) (u : Value) (l : List Sp) (w : World) (h : Okw w) (hu : SRuns w u l) :
    Calls Tryd.prog 19 #[.string s, u] w fun e w' => e = .returned (.bool (checkB s.data.toList l)) ∧ Below w.heap.size w w' := by
  have c := spans_any s w h
  unfold checkB
  by_cases hd : docErr s.data.toList = 0
  · rw [hd] at c ⊢
    have C := Lib.hid c; clear c
    obtain ⟨ds, hds⟩ : ∃ ds, docSpans s.data.toList = ds := ⟨_, rfl⟩
    rw [hds] at C ⊢
    obtain ⟨n, hn⟩ : ∃ n, ds.length = n := ⟨_, rfl⟩
    rw [hn] at C
    clear hds hn
    obtain ⟨r, hr⟩ : ∃ r, decide (l = ds) = r := ⟨_, rfl⟩
    have HR := Lib.hid hr
    clear hd
    have hfin : (decide ((0 : Int) = 0) && decide (l = ds)) = r := by simpa using hr
    rw [hfin]
    clear hfin hr
    go_enter Tryd.func19, Tryd.ntmps19
    go_wp2_with fail
    refine C.out.mono ?_
    rintro e w1 ⟨A, c, rfl, hr1, hb1⟩
    have ce := equal_any _ _ _ _ w1 (hu.below hb1) hr1
    rw [HR.out] at ce
    have CE := Lib.hid ce
    clear ce
    go_wp2_with (go_at_call 34; refine CE.out.mono ?_; rintro e w2 ⟨rfl, hd2⟩)
    go_ret
    exact ⟨by simp, hb1.trans ((hd2.below _).mono hb1.size)⟩
  · have hz : (decide (docErr s.data.toList = 0) && decide (l = docSpans s.data.toList)) = false := by simp [hd]
    rw [hz]
    obtain ⟨er, her⟩ : ∃ er, docErr s.data.toList = er := ⟨_, rfl⟩
    rw [her] at c hd
    have C := Lib.hid c; clear c
    have h1 : (er == 0) = false := by simpa using hd
    clear hz her hd
    go_enter Tryd.func19, Tryd.ntmps19
    go_wp2_with fail
    refine C.out.mono ?_
    rintro e w1 ⟨A, c, rfl, hr1, hb1⟩
    go_wp2
    go_ret
    exact ⟨by simp, hb1⟩

set_option maxRecDepth 100000 in
set_option maxHeartbeats 1000000 in
theorem count_any (u : Value) (l : List Sp) (w : World) (hu : SRuns w u l) :
    Calls Tryd.prog 31 #[u] w fun e w' => e = .returned (.int .i64 (cnt l l.length)) ∧ Below w.heap.size w w' := by
  obtain ⟨A, c, rfl, hxc, ⟨hxm, _⟩, hxx⟩ := hu
  unfold maxLen at hxm
  obtain ⟨n, hn⟩ : ∃ n, l.length = n := ⟨_, rfl⟩
  rw [hn] at hxc hxx ⊢
  have Hn := Lib.hid hn; clear hn
  have HX := Lib.hid hxx; clear hxx
  go_enter Tryd.func31, Tryd.ntmps31
  go_wp2
  go_loopw [3, 8] (fun s3 s8 wr => ∃ k : Nat, k ≤ n ∧ s8 = .int .i64 k ∧ s3 = .int .i64 (cnt l k) ∧ Below w.heap.size w wr) (fun _ s8 _ => n - (intOf s8).toNat)
  case atStart => exact ⟨0, Nat.zero_le _, rfl, rfl, Below.refl _ _⟩
  case round =>
    obtain ⟨k, hk, rfl, rfl, hB⟩ := hrel
    by_cases hlt : k < n
    · obtain ⟨b, o, rfl, hb, hc1⟩ := HX.out (by omega)
      obtain ⟨e1, e2, e3⟩ := hc1 k hlt
      have g1 := (hB.cell (p := ⟨b, o + k * 3, none⟩) hb).trans e1
      have g2 := (hB.cell (p := ⟨b, o + k * 3 + 1, none⟩) hb).trans e2
      have g3 := (hB.cell (p := ⟨b, o + k * 3 + 2, none⟩) hb).trans e3
      clear e1 e2 e3 hc1
      have t1 := cnt_succ l k (by rw [Hn.out]; exact hlt)
      have t2 := cnt_le l k
      obtain ⟨m, hm⟩ : ∃ m, cnt l k = m := ⟨_, rfl⟩
      rw [hm] at t1 t2 ⊢
      obtain ⟨⟨p1, p2, p3⟩, hp⟩ : ∃ p, l.getD k sp0 = p := ⟨_, rfl⟩
      have hp' : l.getD k (0, 0, false) = (p1, p2, p3) := hp
      rw [hp'] at g1 g2 g3
      rw [hp] at t1
      have i1 : (k : Int) < (n : Int) := by omega
      clear hp hp' hm
      cases p3
      · have T1 := Lib.hid t1; clear t1
        go_wp2
        go_roundw
        case rel => exact ⟨k + 1, by omega, by go_num, by rw [T1.out]; rfl, hB.alloc hB.size _⟩
        case measure => simp [intOf]; omega
      · have T1 := Lib.hid t1; clear t1
        go_wp2
        go_roundw
        case rel => exact ⟨k + 1, by omega, by go_num, by rw [T1.out]; go_num, hB.alloc hB.size _⟩
        case measure => simp [intOf]; omega
    · obtain rfl : n = k := by omega
      go_wp2
      go_ret
      exact ⟨rfl, hB⟩
set_option maxRecDepth 100000 in
set_option maxHeartbeats 1000000 in
theorem join_form (s : ByteArray) (u v : Value) (l : List Sp) (w : World) (h : Okw w) (hu : SRuns w u l) (hc : checkB s.data.toList l = false) :
    Calls Tryd.prog 17 #[.string s, u, v] w fun e w' => e = .returned (.tuple #[.string ⟨#[]⟩, .int .i64 7]) ∧ Below w.heap.size w w' := by
  have c := check_any s u l w h hu
  rw [hc] at c
  have C := Lib.hid c
  clear c hc
  go_enter Tryd.func17, Tryd.ntmps17
  go_wp2_with fail
  refine C.out.mono ?_
  rintro e w1 ⟨rfl, hb1⟩
  go_wp2
  go_ret2
  exact ⟨rfl, hb1⟩

set_option maxRecDepth 100000 in
set_option maxHeartbeats 1000000 in
theorem join_arg (s : ByteArray) (u v : Value) (l : List Sp) (ts : List ByteArray) (w : World) (h : Okw w) (hu : SRuns w u l) (hv : TRuns w v ts) (hc : checkB s.data.toList l = true) (hne : ts.length ≠ cnt l l.length) :
    Calls Tryd.prog 17 #[.string s, u, v] w fun e w' => e = .returned (.tuple #[.string ⟨#[]⟩, .int .i64 2]) ∧ Below w.heap.size w w' := by
  have c := check_any s u l w h hu
  rw [hc] at c
  have C := Lib.hid c
  clear c hc
  obtain ⟨A, c, rfl, _, _, _⟩ := hv
  obtain ⟨n, hn⟩ : ∃ n, ts.length = n := ⟨_, rfl⟩
  obtain ⟨m, hm⟩ : ∃ m, cnt l l.length = m := ⟨_, rfl⟩
  rw [hn, hm] at hne
  rw [hn]
  have h1 : ((n : Int) == (m : Int)) = false := by simp; omega
  clear hn
  go_enter Tryd.func17, Tryd.ntmps17
  go_wp2_with fail
  refine C.out.mono ?_
  rintro e w1 ⟨rfl, hb1⟩
  have c2 := count_any u l w1 (hu.below hb1)
  rw [hm] at c2
  have C2 := Lib.hid c2
  clear c2 hm
  go_wp2_with fail
  refine C2.out.mono ?_
  rintro e w2 ⟨rfl, hb2⟩
  go_wp2
  go_ret2
  exact ⟨rfl, hb1.trans (hb2.mono hb1.size)⟩

set_option maxRecDepth 100000 in
set_option maxHeartbeats 2000000 in
theorem join_ok (s : ByteArray) (u v : Value) (l : List Sp) (ts : List ByteArray) (w : World) (h : Okw w) (hu : SRuns w u l) (hv : TRuns w v ts) (hc : checkB s.data.toList l = true) (hlen : ts.length = cnt l l.length) (ht : ∀ t ∈ ts, t.size ≤ 1048576) :
    Calls Tryd.prog 17 #[.string s, u, v] w fun e w' => e = .returned (.tuple #[.string ⟨(joinP s l ts l.length).toArray⟩, .int .i64 0]) ∧ Below w.heap.size w w' := by
  have c := check_any s u l w h hu
  rw [hc] at c
  have C := Lib.hid c
  clear c
  have hck : docErr s.data.toList = 0 ∧ l = docSpans s.data.toList := by unfold checkB at hc; simpa using hc
  obtain ⟨hsz, hvd⟩ := doc_ok s hck.1
  have hin : ∀ p ∈ l, 0 ≤ p.1 ∧ p.1 ≤ p.2.1 ∧ p.2.1 ≤ (s.size : Int) := by
    rw [hck.2]; unfold docSpans; rw [if_pos hck.1, Lib.size_eq]; exact spans_in _ hvd
  have hll : l.length ≤ 1048576 := by
    rw [hck.2]; unfold docSpans; rw [if_pos hck.1]
    have := spansL_len s.data.toList; rw [← Lib.size_eq] at this; omega
  clear hck hc hvd
  have hu0 := hu
  have hmono := cnt_mono l
  have hcle := cnt_le l
  have hjle := joinP_le s l ts hsz ht
  have hple := part_le s l ts hsz ht
  obtain ⟨A, c, rfl, hxc, ⟨hxm, _⟩, hxx⟩ := hu
  obtain ⟨A2, c2, rfl, hyc, ⟨hym, _⟩, hyy⟩ := hv
  unfold maxLen at hxm hym
  obtain ⟨n, hn⟩ : ∃ n, l.length = n := ⟨_, rfl⟩
  obtain ⟨m, hm⟩ : ∃ m, ts.length = m := ⟨_, rfl⟩
  have hcnt : cnt l l.length = m := by rw [← hlen, hm]
  have hcn : cnt l n = m := by rw [← hn]; exact hcnt
  rw [hn] at hxc hxx hll ⊢
  rw [hm] at hyc hyy ⊢
  have Hn := Lib.hid hn; clear hn
  have Hm := Lib.hid hm; clear hm
  have HX := Lib.hid hxx; clear hxx
  have HY := Lib.hid hyy; clear hyy
  have HIN := Lib.hid hin; clear hin
  have HMO := Lib.hid hmono; clear hmono
  have HCL := Lib.hid hcle; clear hcle
  have HJL := Lib.hid hjle; clear hjle
  have HPL := Lib.hid hple; clear hple
  have HCN := Lib.hid hcn; clear hcn
  have HCT := Lib.hid hcnt; clear hcnt
  clear hlen ht
  rw [Hn.out] at hu0 C
  go_enter Tryd.func17, Tryd.ntmps17
  go_wp2_with fail
  refine C.out.mono ?_
  rintro e w1 ⟨rfl, hb1⟩
  have c2 := count_any _ l w1 (hu0.below hb1)
  rw [HCT.out] at c2
  have C2 := Lib.hid c2
  clear c2 hu0
  go_wp2_with fail
  refine C2.out.mono ?_
  rintro e w2 ⟨rfl, hb2⟩
  have hB2 : Below w.heap.size w w2 := hb1.trans (hb2.mono hb1.size)
  clear hb1 hb2
  have hfresh := Lib.IsBuilderF.of (Lib.fresh_isBuilder 60 5 w2)
  have hw2 := hB2.size
  go_wp2
  go_loopw [9, 23] (fun s9 s23 wr => ∃ k : Nat, k ≤ n ∧ s23 = .int .i64 k ∧ s9 = .int .i64 (cnt l k) ∧ Lib.IsBuilderF 60 5 w2.heap.size w2.heap.size (Lib.byteCells (joinP s l ts k)) wr ∧ Below w2.heap.size w2 wr) (fun _ s23 _ => n - (intOf s23).toNat)
  case atStart => exact ⟨0, Nat.zero_le _, rfl, rfl, by simpa [joinP, Lib.byteCells] using hfresh, (Below.refl _ w2).alloc (Nat.le_refl _) _⟩
  case round =>
    obtain ⟨k, hk, rfl, rfl, hbd, hB⟩ := hrel
    clear hfresh
    have hBw : Below w.heap.size w wr := hB2.trans (hB.mono hw2)
    by_cases hlt : k < n
    · obtain ⟨b, o, rfl, hb, hc1⟩ := HX.out (by omega)
      obtain ⟨e1, e2, e3⟩ := hc1 k hlt
      have g1 := (hBw.cell (p := ⟨b, o + k * 3, none⟩) hb).trans e1
      have g2 := (hBw.cell (p := ⟨b, o + k * 3 + 1, none⟩) hb).trans e2
      have g3 := (hBw.cell (p := ⟨b, o + k * 3 + 2, none⟩) hb).trans e3
      clear e1 e2 e3 hc1
      have t1 := cnt_succ l k (by rw [Hn.out]; exact hlt)
      have t2 := HCL.out k
      have t3 := HMO.out (k + 1) n (by omega) (by rw [Hn.out]; exact Nat.le_refl _)
      rw [HCN.out] at t3
      have q := HIN.out (l.getD k sp0) (by rw [List.getD_eq_getElem?_getD, List.getElem?_eq_getElem (by rw [Hn.out]; exact hlt)]; simp)
      have jp : joinP s l ts (k + 1) = joinP s l ts k ++ (partS s l ts k).data.toList := rfl
      have pl := HPL.out k
      have jl := HJL.out k
      have pe : partS s l ts k = if (l.getD k sp0).2.2 then ts.getD (cnt l k) ⟨#[]⟩ else s.extract (l.getD k sp0).1.toNat (l.getD k sp0).2.1.toNat := rfl
      obtain ⟨d, hd⟩ : ∃ d, cnt l k = d := ⟨_, rfl⟩
      rw [hd] at t1 t2 pe ⊢
      obtain ⟨⟨p1, p2, p3⟩, hp⟩ : ∃ p, l.getD k sp0 = p := ⟨_, rfl⟩
      have hp' : l.getD k (0, 0, false) = (p1, p2, p3) := hp
      rw [hp'] at g1 g2 g3
      rw [hp] at t1 q pe
      obtain ⟨q1, q2, q3⟩ := q
      dsimp only at q1 q2 q3 pe t1
      have i1 : (k : Int) < (n : Int) := by omega
      clear hp hp' hd
      have hbl : (Lib.byteCells (joinP s l ts k)).length = (joinP s l ts k).length := Lib.byteCells_length _
      have hbd1 := hbd.alloc (.cells #[.int .i64 p1, .int .i64 p2, .bool p3] 43)
      have hB1 : Below w2.heap.size w2 (wr.alloc (.cells #[.int .i64 p1, .int .i64 p2, .bool p3] 43)) := hB.alloc hB.size _
      cases p3
      · rw [if_neg (by simp)] at pe
        have C3 := Lib.hid (writeString_k w2.heap.size w2.heap.size _ (s.extract p1.toNat p2.toNat) _ hbd1 (by rw [hbl, ← pe]; omega) hB1.size)
        have T1 := Lib.hid t1; have PE := Lib.hid pe; have JP := Lib.hid jp
        clear t1 pe jp hbl pl jl t3 hbd hB2 hw2 hBw
        go_wp2_with (go_at_call 32; refine C3.out.mono ?_; rintro e w3 ⟨rfl, hb3, hw3⟩)
        go_roundw
        case rel => exact ⟨k + 1, by omega, by go_num, by rw [T1.out]; rfl, by rw [JP.out, Lib.byteCells_append, PE.out]; exact hb3, hB1.trans hw3⟩
        case measure => simp [intOf]; omega
      · rw [if_pos rfl] at pe t1
        have hdm : d < m := by omega
        obtain ⟨b2, o2, rfl, hb2, hc2⟩ := HY.out (by omega)
        have f1 := ((hBw.alloc hBw.size (.cells #[.int .i64 p1, .int .i64 p2, .bool true] 43)).cell (p := ⟨b2, o2 + d, none⟩) hb2).trans (hc2 d hdm)
        clear hc2
        rw [← pe] at f1
        obtain ⟨X, hX⟩ : ∃ X, partS s l ts k = X := ⟨_, rfl⟩
        rw [hX] at f1 pl jp
        have C3 := Lib.hid (writeString_k w2.heap.size w2.heap.size _ X _ hbd1 (by rw [hbl]; omega) hB1.size)
        have T1 := Lib.hid t1; have JP := Lib.hid jp
        clear t1 pe jp hbl hX pl jl t3 hbd hB2 hw2 hBw
        have i2 : (d : Int) < (m : Int) := by omega
        go_wp2_with (go_at_call 32; refine C3.out.mono ?_; rintro e w3 ⟨rfl, hb3, hw3⟩)
        go_roundw
        case rel => exact ⟨k + 1, by omega, by go_num, by rw [T1.out]; go_num, by rw [JP.out, Lib.byteCells_append]; exact hb3, hB1.trans hw3⟩
        case measure => simp [intOf]; omega
    · obtain rfl : n = k := by omega
      have C4 := Lib.hid (Tryd.Builder_String_any_f w2.heap.size w2.heap.size _ wr hbd hB.size)
      go_wp2_with (go_at_call 33; refine C4.out.mono ?_; rintro e w3 ⟨rfl, _, hw3⟩)
      go_ret2
      exact ⟨rfl, hB2.trans ((hB.trans hw3).mono hw2)⟩
end Go.Proofs.YtephhejfkihhgaaDoor
