/- The law TextRefuses, walked: a span that is moved, left out, or told to be another sort isn't a part; a text too many is refused. -/
import Derived.Test.YtephhejfkihhgaaDoorTRpt
import Derived.Deep.RegionLaw
import Derived.IntWalk
import Derived.Test.YtephhejfkihhgaaDoorRefDecode
namespace Go.Proofs.YtephhejfkihhgaaDoor
open Go.RowKit Go.Shelf

/-- An append whose run is known, as one step of a region that draws its order. -/
theorem step_append_run {P : Program} {ops : Array Oper} {o : Oper} {a : Act} {w : World} {K : Act → World → Prop} {Q : Exit → Act → World → Prop} {E : Prop} (hgd : o.guard = none) (s x : Operand) (t : TypeId) (v u v' : Value) (w' : World)
    (ho : o.op = .call { callee := .builtin .append, args := #[s, x], argTypes := #[t, t] }) (hrun : (Builtin.append_ #[t, t] o.type #[v, u]).run P w = .ok v' w') (hs : a.eval s = v) (hx : a.eval x = u)
    (h : K (a.put o.dst v') w') : if Region.wanted o (yielded ops a.tmps) = true then Oper.wp P o a w K Q else E := by
  have hw : Region.wanted o (yielded ops a.tmps) = true := by simp [Region.wanted, hgd]
  rw [if_pos hw]
  unfold Oper.wp
  simp [execOp, ho, resolve, invoke, builtin, hs, hx, hrun, Result.andThen]
  exact h
theorem spCs_take (l : List Sp) (k : Nat) (h : k ≤ l.length) : (spCs l).take (k * 3) = spCs (l.take k) := by
  conv => lhs; rw [← List.take_append_drop k l]
  have : spCs (l.take k ++ l.drop k) = spCs (l.take k) ++ spCs (l.drop k) := List.flatMap_append
  rw [this]
  have h2 : (spCs (l.take k)).length = k * 3 := by rw [spCs_len, List.length_take]; omega
  rw [← h2, List.take_left]
theorem spCs_drop (l : List Sp) (k : Nat) (h : k ≤ l.length) : spCs (l.drop k) = (spCs l).drop (k * 3) := by
  conv => rhs; rw [← List.take_append_drop k l]
  have : spCs (l.take k ++ l.drop k) = spCs (l.take k) ++ spCs (l.drop k) := List.flatMap_append
  rw [this]
  have h2 : (spCs (l.take k)).length = k * 3 := by rw [spCs_len, List.length_take]; omega
  rw [← h2, List.drop_left]
/-- The first k pieces of a row of the call's own. -/
theorem own_pre {w : World} {base : Nat} {e : TypeId} {g cap n : Nat} {xs : List Value} (h : w.ownsRow base e 3 (.slice (some ⟨g, 0, none⟩) n cap) n xs) (k : Nat) (l : List Sp) (hx : xs = spCs l) (hk : k ≤ n) (hl : k ≤ l.length) : w.drew.ownsRow base e 3 (.slice (some ⟨g, 0, none⟩) k cap) k (spCs (l.take k)) := by
  rcases h.2 with ⟨h0, _⟩ | ⟨g', cap', cur, e1, hb, hg, h1, h2, h3, h4⟩
  · cases h0
  · simp only [Value.slice.injEq, Option.some.injEq, Addr.mk.injEq] at e1
    obtain ⟨⟨rfl, _⟩, _, rfl⟩ := e1
    refine ⟨by rw [spCs_len, List.length_take]; omega, .inr ⟨g, cap, cur, rfl, hb, hg, by omega, h2, h3, ?_⟩⟩
    have h5 : (cur.toList.take (n * 3)).take (k * 3) = cur.toList.take (k * 3) := by rw [List.take_take]; congr 1; omega
    rw [← h5, h4, hx, spCs_take l k hl]

set_option maxRecDepth 100000 in
set_option maxHeartbeats 8000000 in
theorem refuses_main (s : ByteArray) (a b : Nat) (w : World) (h : Okw w) (hA : s.size ≤ 2000) (ha : a < 256) (hb : b < 256) (l : List Sp) (ts : List ByteArray) (n m : Nat)
    (hn : Hid (l.length = n)) (hm : Hid (ts.length = m)) (hn0 : 0 < n) (hnm : n ≤ 2000) (hmm : m ≤ 2001)
    (d1 : ∀ w, Okw w → Calls Tryd.prog 11 #[.string s] w fun e w' => ∃ A c, e = .returned (.tuple #[.slice A n c, .int .i64 0]) ∧ SRuns w' (.slice A n c) l ∧ Below w.heap.size w w')
    (d2 : ∀ w, Okw w → Calls Tryd.prog 13 #[.string s] w fun e w' => ∃ A c, e = .returned (.tuple #[.slice A m c, .int .i64 0]) ∧ TRuns w' (.slice A m c) ts ∧ Below w.heap.size w w')
    (hin : ∀ p ∈ l, 0 ≤ p.1 ∧ p.1 ≤ p.2.1 ∧ p.2.1 ≤ 2000) (hform : ∀ l', l' ≠ l → FormAt s l') (us : List ByteArray) (hus : Hid (ts ++ [⟨#[120]⟩] = us)) (harg : ArgAt s l us) (hdoc : ∀ l', FormAt (⟨#[120, 120, 120]⟩ ++ ⟨#[255]⟩) l') :
    Calls Tryd.prog 8 #[.string s, .int .u8 a, .int .u8 b] w (RetTrue w) := by
  have C0 := Lib.hid (alive2_any w h)
  have hA' : decide ((2000 : Int) < (s.size : Int)) = false := by simp; omega
  have hn1 : ((n : Int) == 0) = false := by simp; omega
  go_enter Tryd.func8, Tryd.ntmps8
  go_wp2_with (go_at_call 10; refine C0.out.mono ?_; rintro e w0 ⟨rfl, hb0⟩)
  have h0 := h.below hb0
  refine (d1 _ h0).mono ?_
  rintro e w1 ⟨A1, c1, rfl, hr1, hb1⟩
  have h1 := h0.below hb1
  go_wp2_with fail
  refine (d2 _ h1).mono ?_
  rintro e w2 ⟨A2, c2, rfl, hr2, hb2⟩
  have h2 := h1.below hb2
  have hB2 : Below w.heap.size w w2 := hb0.trans ((hb1.trans (hb2.mono hb1.size)).mono hb0.size)
  have hr12 := hr1.below hb2
  have hba : Below w2.heap.size w2 (w2.alloc (.cells #[] 43)) := (Below.refl _ _).alloc (Nat.le_refl _) _
  obtain ⟨v3, w3, hrun3, hown3, hg3, _⟩ := append_spans _ w2.heap.size _ 0 [] (own_litS w2) _ l (hr12.below hba) (by simp) (by rw [hn.out]; omega)
  have hb3 : Below w2.heap.size w2 w3 := hba.grown hg3 (by simp) (fun k hk => by simp [Value.ownBlock] at hk; omega)
  rw [hn.out, List.nil_append, Nat.zero_add] at hown3
  obtain ⟨n', rfl⟩ : ∃ n', n = n' + 1 := ⟨n - 1, by omega⟩
  obtain ⟨g, cap, rfl⟩ := ownsRow_succ hown3
  have H3 := Lib.hid hrun3
  have hgat := own_at hown3
  obtain ⟨⟨p1, p2, p3⟩, hp⟩ : ∃ p, l.getD (a % (n' + 1)) sp0 = p := ⟨_, rfl⟩
  have hkn : a % (n' + 1) < n' + 1 := Nat.mod_lt _ (by omega)
  have hkl : a % (n' + 1) < l.length := by rw [hn.out]; exact hkn
  obtain ⟨q1, q2, q3⟩ := hin _ (List.getElem_mem hkl)
  have hpe : l[a % (n' + 1)] = (p1, p2, p3) := by rw [← hp]; simp [List.getD_eq_getElem?_getD, hkl]
  rw [hpe] at q1 q2 q3
  dsimp only at q1 q2 q3
  have e0 : w3.cell? ⟨g, a % (n' + 1) * 3, none⟩ = some (.int .i64 p1) := own_cell hown3 (a % (n' + 1) * 3 + 0) (by omega) _ (by rw [spCs_at l _ 0 hkl (by decide)]; show (spC (l.getD (a % (n' + 1)) sp0))[0]? = _; rw [hp]; rfl)
  have e1 : w3.cell? ⟨g, a % (n' + 1) * 3 + 1, none⟩ = some (.int .i64 p2) := own_cell hown3 (a % (n' + 1) * 3 + 1) (by omega) _ (by rw [spCs_at l _ 1 hkl (by decide)]; show (spC (l.getD (a % (n' + 1)) sp0))[1]? = _; rw [hp]; rfl)
  have e2 : w3.cell? ⟨g, a % (n' + 1) * 3 + 2, none⟩ = some (.bool p3) := own_cell hown3 (a % (n' + 1) * 3 + 2) (by omega) _ (by rw [spCs_at l _ 2 hkl (by decide)]; show (spC (l.getD (a % (n' + 1)) sp0))[2]? = _; rw [hp]; rfl)
  have f0 : w3.frozen? ⟨g, a % (n' + 1) * 3, none⟩ = false := own_frozen hown3 _
  have f1 : w3.frozen? ⟨g, a % (n' + 1) * 3 + 1, none⟩ = false := own_frozen hown3 _
  have f2 : w3.frozen? ⟨g, a % (n' + 1) * 3 + 2, none⟩ = false := own_frozen hown3 _
  clear hrun3 hg3 hba hb0 hb1 hb2 h0 h1 hr1 hpe
  have x1 : (0 : Int) ≤ (a : Int) % ((n' : Int) + 1) := Int.emod_nonneg _ (by omega)
  have x2 : (a : Int) % ((n' : Int) + 1) < (n' : Int) + 1 := Int.emod_lt_of_pos _ (by omega)
  have hb4c : b % 4 = 0 ∨ b % 4 = 1 ∨ b % 4 = 2 ∨ b % 4 = 3 := by omega
  rcases hb4c with hbm | hbm | hbm | hbm
  · have hbi : (b : Int) % 4 = 0 := by omega
    have hne : l.set (a % (n' + 1)) (p1, p2 + 1, p3) ≠ l := fun e => by
      have h1 := congrArg (fun z => z.getD (a % (n' + 1)) sp0) e
      simp only [List.getD_eq_getElem?_getD, List.getElem?_set_self hkl, Option.getD_some] at h1
      rw [← List.getD_eq_getElem?_getD, hp] at h1
      have h2 : p2 + 1 = p2 := by have := congrArg (fun z : Sp => z.2.1) h1; simpa using this
      omega
    have hset := own_set hown3 (a % (n' + 1) * 3 + 1) (by omega) (.int .i64 (p2 + 1))
    rw [spCs_set l (a % (n' + 1)) 1 (p1, p2 + 1, p3) _ hkl (by decide) (by rw [hp]; rfl)] at hset
    have hsr := SRuns.of_own hset
    have hb4 : Below w2.heap.size w2 (w3.setCell ⟨g, a % (n' + 1) * 3 + 1, none⟩ (.int .i64 (p2 + 1))) := hb3.setCell (p := ⟨g, _, none⟩) hgat.1 _
    have HS := Lib.hid hset
    clear hset
    clear HS
    go_wp2_with (at_builtin; refine wpList_append_run (.tmp 43) (.tmp 44) 23 _ _ _ _ H3.out rfl rfl rfl rfl ?_)
    have h4 : Okw (w3.setCell ⟨g, a % (n' + 1) * 3 + 1, none⟩ (.int .i64 (p2 + 1))) := h2.below hb4
    refine ((hform _ hne).1 (w3.setCell ⟨g, a % (n' + 1) * 3 + 1, none⟩ (.int .i64 (p2 + 1))) _ _ h4 hsr).mono ?_
    rintro e w5 ⟨rfl, hb5⟩
    have h5 := h4.below hb5
    have hb25 : Below w2.heap.size w2 w5 := hb4.trans (hb5.mono hb4.size)
    have hbx : Below w5.heap.size w5 (w5.alloc (.cells #[] 9)) := (Below.refl _ _).alloc (Nat.le_refl _) _
    obtain ⟨v6, w6, hrun6, hown6, hg6, hat6⟩ := append_texts _ w5.heap.size _ 0 [] (own_litT w5) _ ts ((hr2.below hb25).below hbx) (by simp) (by rw [hm.out]; omega)
    have hb6 : Below w5.heap.size w5 w6 := hbx.grown hg6 (by simp) (fun k hk => by simp [Value.ownBlock] at hk; omega)
    have hby : Below w6.heap.size w6 (w6.alloc (.cells #[.string ⟨#[120]⟩] 9)) := (Below.refl _ _).alloc (Nat.le_refl _) _
    obtain ⟨v7, w7, hrun7, hown7, hg7, hat7⟩ := append_texts _ w5.heap.size _ _ _ (own_below hown6 hby) _ [⟨#[120]⟩] (truns_lit w6 ⟨#[120]⟩) (Nat.le_trans hb6.size hby.size) (by rw [hm.out]; simp; omega)
    have hb7 : Below w5.heap.size w5 w7 := (hb6.trans (hby.mono hb6.size)).grown hg7 (Nat.le_trans hb6.size hby.size) (fun k hk => by
      rcases hat6 with e | e <;> rw [e] at hk <;> simp [Value.ownBlock] at hk <;> omega)
    have hz7 : TRuns w7 v7 us := TRuns.of_own (n := 0 + ts.length + 1) (by rw [← hus.out]; simpa using hown7)
    have hz7' := hz7
    obtain ⟨A7, c7, rfl, _⟩ := hz7'
    have hz6 : TRuns w6 v6 ts := TRuns.of_own (n := 0 + ts.length) (by simpa using hown6)
    obtain ⟨A6, c6, rfl, _⟩ := hz6
    have hb27 : Below w2.heap.size w2 w7 := hb25.trans (hb7.mono hb25.size)
    have h7 := h5.below hb7
    have H6 := Lib.hid hrun6
    have H7 := Lib.hid hrun7
    clear hrun6 hown6 hg6 hat6 hrun7 hown7 hg7 hat7 hbx hby hb6
    go_wp2_with (first
      | (at_builtin; refine wpList_append_run (.tmp 105) (.tmp 106) 27 _ _ _ _ H6.out rfl rfl rfl rfl ?_)
      | (at_builtin; refine wpList_append_run (.tmp 107) (.tmp 108) 27 _ _ _ _ H7.out rfl rfl rfl rfl ?_)
      | fail)
    refine (harg w7 _ _ h7 (hr12.below hb27) hz7).mono ?_
    rintro e w8 ⟨rfl, hb8⟩
    have h8 := h7.below hb8
    have C9 := Lib.hid (repeat3 w8)
    clear H6 H7
    go_wp2_with fail
    refine C9.out.mono ?_
    rintro e w9 ⟨rfl, hb9⟩
    have h9 := h8.below hb9
    have hb79 : Below w7.heap.size w7 w9 := hb8.trans (hb9.mono hb8.size)
    have hb29 : Below w2.heap.size w2 w9 := hb27.trans (hb79.mono hb27.size)
    clear C9
    go_wp2_with fail
    refine ((hdoc l).1 w9 _ _ h9 (hr12.below hb29)).mono ?_
    rintro e w10 ⟨rfl, hb10⟩
    have h10 := h9.below hb10
    have hb5a : Below w5.heap.size w5 w10 := hb7.trans ((hb79.trans (hb10.mono hb79.size)).mono hb7.size)
    have hb4a : Below (w3.setCell ⟨g, a % (n' + 1) * 3 + 1, none⟩ (.int .i64 (p2 + 1))).heap.size (w3.setCell ⟨g, a % (n' + 1) * 3 + 1, none⟩ (.int .i64 (p2 + 1))) w10 := hb5.trans (hb5a.mono hb5.size)
    have hb2a : Below w2.heap.size w2 w10 := hb29.trans (hb10.mono hb29.size)
    go_wp2_with fail
    refine ((hform _ hne).2 w10 _ h10 (hsr.below hb4a)).mono ?_
    rintro e w11 ⟨rfl, hb11⟩
    go_wp2
    go_ret
    exact ⟨by simp, hB2.trans ((hb2a.trans (hb11.mono hb2a.size)).mono hB2.size)⟩
  · have hbi : (b : Int) % 4 = 1 := by omega
    have hne : l.set (a % (n' + 1)) (p1 - 1, p2, p3) ≠ l := fun e => by
      have h1 := congrArg (fun z => z.getD (a % (n' + 1)) sp0) e
      simp only [List.getD_eq_getElem?_getD, List.getElem?_set_self hkl, Option.getD_some] at h1
      rw [← List.getD_eq_getElem?_getD, hp] at h1
      have h2 : p1 - 1 = p1 := by have := congrArg (fun z : Sp => z.1) h1; simpa using this
      omega
    have hset := own_set hown3 (a % (n' + 1) * 3 + 0) (by omega) (.int .i64 (p1 - 1))
    rw [spCs_set l (a % (n' + 1)) 0 (p1 - 1, p2, p3) _ hkl (by decide) (by rw [hp]; rfl)] at hset
    have hsr := SRuns.of_own hset
    have hb4 : Below w2.heap.size w2 (w3.setCell ⟨g, a % (n' + 1) * 3 + 0, none⟩ (.int .i64 (p1 - 1))) := hb3.setCell (p := ⟨g, _, none⟩) hgat.1 _
    have HS := Lib.hid hset
    clear hset
    rw [Nat.add_zero] at hsr hb4
    clear HS
    go_wp2_with (at_builtin; refine wpList_append_run (.tmp 43) (.tmp 44) 23 _ _ _ _ H3.out rfl rfl rfl rfl ?_)
    have h4 : Okw (w3.setCell ⟨g, a % (n' + 1) * 3, none⟩ (.int .i64 (p1 - 1))) := h2.below hb4
    refine ((hform _ hne).1 (w3.setCell ⟨g, a % (n' + 1) * 3, none⟩ (.int .i64 (p1 - 1))) _ _ h4 hsr).mono ?_
    rintro e w5 ⟨rfl, hb5⟩
    have h5 := h4.below hb5
    have hb25 : Below w2.heap.size w2 w5 := hb4.trans (hb5.mono hb4.size)
    have hbx : Below w5.heap.size w5 (w5.alloc (.cells #[] 9)) := (Below.refl _ _).alloc (Nat.le_refl _) _
    obtain ⟨v6, w6, hrun6, hown6, hg6, hat6⟩ := append_texts _ w5.heap.size _ 0 [] (own_litT w5) _ ts ((hr2.below hb25).below hbx) (by simp) (by rw [hm.out]; omega)
    have hb6 : Below w5.heap.size w5 w6 := hbx.grown hg6 (by simp) (fun k hk => by simp [Value.ownBlock] at hk; omega)
    have hby : Below w6.heap.size w6 (w6.alloc (.cells #[.string ⟨#[120]⟩] 9)) := (Below.refl _ _).alloc (Nat.le_refl _) _
    obtain ⟨v7, w7, hrun7, hown7, hg7, hat7⟩ := append_texts _ w5.heap.size _ _ _ (own_below hown6 hby) _ [⟨#[120]⟩] (truns_lit w6 ⟨#[120]⟩) (Nat.le_trans hb6.size hby.size) (by rw [hm.out]; simp; omega)
    have hb7 : Below w5.heap.size w5 w7 := (hb6.trans (hby.mono hb6.size)).grown hg7 (Nat.le_trans hb6.size hby.size) (fun k hk => by
      rcases hat6 with e | e <;> rw [e] at hk <;> simp [Value.ownBlock] at hk <;> omega)
    have hz7 : TRuns w7 v7 us := TRuns.of_own (n := 0 + ts.length + 1) (by rw [← hus.out]; simpa using hown7)
    have hz7' := hz7
    obtain ⟨A7, c7, rfl, _⟩ := hz7'
    have hz6 : TRuns w6 v6 ts := TRuns.of_own (n := 0 + ts.length) (by simpa using hown6)
    obtain ⟨A6, c6, rfl, _⟩ := hz6
    have hb27 : Below w2.heap.size w2 w7 := hb25.trans (hb7.mono hb25.size)
    have h7 := h5.below hb7
    have H6 := Lib.hid hrun6
    have H7 := Lib.hid hrun7
    clear hrun6 hown6 hg6 hat6 hrun7 hown7 hg7 hat7 hbx hby hb6
    go_wp2_with (first
      | (at_builtin; refine wpList_append_run (.tmp 105) (.tmp 106) 27 _ _ _ _ H6.out rfl rfl rfl rfl ?_)
      | (at_builtin; refine wpList_append_run (.tmp 107) (.tmp 108) 27 _ _ _ _ H7.out rfl rfl rfl rfl ?_)
      | fail)
    refine (harg w7 _ _ h7 (hr12.below hb27) hz7).mono ?_
    rintro e w8 ⟨rfl, hb8⟩
    have h8 := h7.below hb8
    have C9 := Lib.hid (repeat3 w8)
    clear H6 H7
    go_wp2_with fail
    refine C9.out.mono ?_
    rintro e w9 ⟨rfl, hb9⟩
    have h9 := h8.below hb9
    have hb79 : Below w7.heap.size w7 w9 := hb8.trans (hb9.mono hb8.size)
    have hb29 : Below w2.heap.size w2 w9 := hb27.trans (hb79.mono hb27.size)
    clear C9
    go_wp2_with fail
    refine ((hdoc l).1 w9 _ _ h9 (hr12.below hb29)).mono ?_
    rintro e w10 ⟨rfl, hb10⟩
    have h10 := h9.below hb10
    have hb5a : Below w5.heap.size w5 w10 := hb7.trans ((hb79.trans (hb10.mono hb79.size)).mono hb7.size)
    have hb4a : Below (w3.setCell ⟨g, a % (n' + 1) * 3, none⟩ (.int .i64 (p1 - 1))).heap.size (w3.setCell ⟨g, a % (n' + 1) * 3, none⟩ (.int .i64 (p1 - 1))) w10 := hb5.trans (hb5a.mono hb5.size)
    have hb2a : Below w2.heap.size w2 w10 := hb29.trans (hb10.mono hb29.size)
    go_wp2_with fail
    refine ((hform _ hne).2 w10 _ h10 (hsr.below hb4a)).mono ?_
    rintro e w11 ⟨rfl, hb11⟩
    go_wp2
    go_ret
    exact ⟨by simp, hB2.trans ((hb2a.trans (hb11.mono hb2a.size)).mono hB2.size)⟩
  · have hbi : (b : Int) % 4 = 2 := by omega
    have hne : l.set (a % (n' + 1)) (p1, p2, !p3) ≠ l := fun e => by
      have h1 := congrArg (fun z => z.getD (a % (n' + 1)) sp0) e
      simp only [List.getD_eq_getElem?_getD, List.getElem?_set_self hkl, Option.getD_some] at h1
      rw [← List.getD_eq_getElem?_getD, hp] at h1
      have := congrArg (fun z : Sp => z.2.2) h1
      simp at this
    have hset := own_set hown3 (a % (n' + 1) * 3 + 2) (by omega) (.bool (!p3))
    rw [spCs_set l (a % (n' + 1)) 2 (p1, p2, !p3) _ hkl (by decide) (by rw [hp]; rfl)] at hset
    have hsr := SRuns.of_own hset
    have hb4 : Below w2.heap.size w2 (w3.setCell ⟨g, a % (n' + 1) * 3 + 2, none⟩ (.bool (!p3))) := hb3.setCell (p := ⟨g, _, none⟩) hgat.1 _
    have HS := Lib.hid hset
    clear hset
    clear HS
    go_wp2_with (at_builtin; refine wpList_append_run (.tmp 43) (.tmp 44) 23 _ _ _ _ H3.out rfl rfl rfl rfl ?_)
    have h4 : Okw (w3.setCell ⟨g, a % (n' + 1) * 3 + 2, none⟩ (.bool (!p3))) := h2.below hb4
    refine ((hform _ hne).1 (w3.setCell ⟨g, a % (n' + 1) * 3 + 2, none⟩ (.bool (!p3))) _ _ h4 hsr).mono ?_
    rintro e w5 ⟨rfl, hb5⟩
    have h5 := h4.below hb5
    have hb25 : Below w2.heap.size w2 w5 := hb4.trans (hb5.mono hb4.size)
    have hbx : Below w5.heap.size w5 (w5.alloc (.cells #[] 9)) := (Below.refl _ _).alloc (Nat.le_refl _) _
    obtain ⟨v6, w6, hrun6, hown6, hg6, hat6⟩ := append_texts _ w5.heap.size _ 0 [] (own_litT w5) _ ts ((hr2.below hb25).below hbx) (by simp) (by rw [hm.out]; omega)
    have hb6 : Below w5.heap.size w5 w6 := hbx.grown hg6 (by simp) (fun k hk => by simp [Value.ownBlock] at hk; omega)
    have hby : Below w6.heap.size w6 (w6.alloc (.cells #[.string ⟨#[120]⟩] 9)) := (Below.refl _ _).alloc (Nat.le_refl _) _
    obtain ⟨v7, w7, hrun7, hown7, hg7, hat7⟩ := append_texts _ w5.heap.size _ _ _ (own_below hown6 hby) _ [⟨#[120]⟩] (truns_lit w6 ⟨#[120]⟩) (Nat.le_trans hb6.size hby.size) (by rw [hm.out]; simp; omega)
    have hb7 : Below w5.heap.size w5 w7 := (hb6.trans (hby.mono hb6.size)).grown hg7 (Nat.le_trans hb6.size hby.size) (fun k hk => by
      rcases hat6 with e | e <;> rw [e] at hk <;> simp [Value.ownBlock] at hk <;> omega)
    have hz7 : TRuns w7 v7 us := TRuns.of_own (n := 0 + ts.length + 1) (by rw [← hus.out]; simpa using hown7)
    have hz7' := hz7
    obtain ⟨A7, c7, rfl, _⟩ := hz7'
    have hz6 : TRuns w6 v6 ts := TRuns.of_own (n := 0 + ts.length) (by simpa using hown6)
    obtain ⟨A6, c6, rfl, _⟩ := hz6
    have hb27 : Below w2.heap.size w2 w7 := hb25.trans (hb7.mono hb25.size)
    have h7 := h5.below hb7
    have H6 := Lib.hid hrun6
    have H7 := Lib.hid hrun7
    clear hrun6 hown6 hg6 hat6 hrun7 hown7 hg7 hat7 hbx hby hb6
    go_wp2_with (first
      | (at_builtin; refine wpList_append_run (.tmp 105) (.tmp 106) 27 _ _ _ _ H6.out rfl rfl rfl rfl ?_)
      | (at_builtin; refine wpList_append_run (.tmp 107) (.tmp 108) 27 _ _ _ _ H7.out rfl rfl rfl rfl ?_)
      | fail)
    refine (harg w7 _ _ h7 (hr12.below hb27) hz7).mono ?_
    rintro e w8 ⟨rfl, hb8⟩
    have h8 := h7.below hb8
    have C9 := Lib.hid (repeat3 w8)
    clear H6 H7
    go_wp2_with fail
    refine C9.out.mono ?_
    rintro e w9 ⟨rfl, hb9⟩
    have h9 := h8.below hb9
    have hb79 : Below w7.heap.size w7 w9 := hb8.trans (hb9.mono hb8.size)
    have hb29 : Below w2.heap.size w2 w9 := hb27.trans (hb79.mono hb27.size)
    clear C9
    go_wp2_with fail
    refine ((hdoc l).1 w9 _ _ h9 (hr12.below hb29)).mono ?_
    rintro e w10 ⟨rfl, hb10⟩
    have h10 := h9.below hb10
    have hb5a : Below w5.heap.size w5 w10 := hb7.trans ((hb79.trans (hb10.mono hb79.size)).mono hb7.size)
    have hb4a : Below (w3.setCell ⟨g, a % (n' + 1) * 3 + 2, none⟩ (.bool (!p3))).heap.size (w3.setCell ⟨g, a % (n' + 1) * 3 + 2, none⟩ (.bool (!p3))) w10 := hb5.trans (hb5a.mono hb5.size)
    have hb2a : Below w2.heap.size w2 w10 := hb29.trans (hb10.mono hb29.size)
    go_wp2_with fail
    refine ((hform _ hne).2 w10 _ h10 (hsr.below hb4a)).mono ?_
    rintro e w11 ⟨rfl, hb11⟩
    go_wp2
    go_ret
    exact ⟨by simp, hB2.trans ((hb2a.trans (hb11.mono hb2a.size)).mono hB2.size)⟩
  · have hbi : (b : Int) % 4 = 3 := by omega
    obtain ⟨K, hK⟩ : ∃ K, a % (n' + 1) = K := ⟨_, rfl⟩
    have hmodK : (a : Int) % ((n' : Int) + 1) = (K : Int) := by
      have := Int.natCast_emod a (n' + 1)
      rw [hK] at this
      rw [this]; simp
    have hcap : n' + 1 ≤ cap := by
      rcases hown3.2 with ⟨h0, _⟩ | ⟨g', cap', cur, e1, _, _, hq, _⟩
      · cases h0
      · simp only [Value.slice.injEq, Option.some.injEq, Addr.mk.injEq] at e1
        omega
    rw [hK] at hkn hkl
    have y1 : (K : Int) ≤ (cap : Int) := by omega
    have y2 : (K : Int) + 1 ≤ (n' : Int) + 1 := by omega
    have y3 : (K : Int) + 1 ≤ (cap : Int) := by omega
    clear e0 e1 e2 f0 f1 f2 x1 x2
    obtain ⟨l', hl'⟩ : ∃ l', l.take K ++ l.drop (K + 1) = l' := ⟨_, rfl⟩
    have hlen' : l'.length = n' := by rw [← hl', List.length_append, List.length_take, List.length_drop, hn.out]; omega
    have hne : l' ≠ l := fun e => by have := congrArg List.length e; rw [hlen', hn.out] at this; omega
    obtain ⟨AD, hif, hcl⟩ : ∃ AD : Addr, (if cap = K + 1 then some (⟨g, 0, none⟩ : Addr) else some ⟨g, (K + 1) * 3, none⟩) = some AD ∧ ∀ j u, (spCs (l.drop (K + 1)))[j]? = some u → w3.drew.cell? (AD.add j) = some u := by
      by_cases hc : cap = K + 1
      · refine ⟨_, if_pos hc, fun j u hj => ?_⟩
        have h0 : l.drop (K + 1) = [] := List.drop_of_length_le (by rw [hn.out]; omega)
        rw [h0] at hj; simp [spCs] at hj
      · refine ⟨_, if_neg hc, fun j u hj => ?_⟩
        have hjl : j < (spCs (l.drop (K + 1))).length := (List.getElem?_eq_some_iff.1 hj).1
        rw [spCs_len, List.length_drop, hn.out] at hjl
        rw [addr_add]
        show w3.cell? _ = _
        exact own_cell hown3 ((K + 1) * 3 + j) (by omega) u (by rw [spCs_drop l (K + 1) (by rw [hn.out]; omega)] at hj; rw [List.getElem?_drop] at hj; exact hj)
    have hpre : w3.drew.ownsRow w2.heap.size 43 3 (.slice (some ⟨g, 0, none⟩) K cap) K (spCs (l.take K)) := own_pre hown3 K l rfl (by omega) (by rw [hn.out]; omega)
    obtain ⟨i0, hi, hz0, hz1, hz2⟩ := info_parts info_sp
    obtain ⟨v4, w4, hrun4, hown4, hg4, _, hat4⟩ := run_append_own_at (P := Tryd.prog) w3.drew w2.heap.size 23 23 43 i0 _ 3 24 Tryd.underlying23 hi hz0 hz1 hz2 rfl (by decide) _ K (spCs (l.take K)) hpre AD (n' - K) (cap - (K + 1)) (spCs (l.drop (K + 1))) (by rw [spCs_len, List.length_drop, hn.out]; omega) hcl (fun u hu => by obtain ⟨p, _, hp⟩ := List.mem_flatMap.1 hu; exact sp_one p u hp) (by unfold maxLen; omega) (by omega) hb3.size
    have hap : spCs (l.take K) ++ spCs (l.drop (K + 1)) = spCs l' := by rw [← hl']; simp [spCs]
    rw [hap] at hown4
    have hsr := SRuns.of_own hown4
    have hsr' := hsr
    obtain ⟨A4, c4, rfl, _⟩ := hsr'
    have hb4 : Below w2.heap.size w2 w4 := hb3.drew.grown hg4 hb3.size (fun k hk => by simp [Value.ownBlock] at hk; omega)
    have H4 := Lib.hid hrun4
    clear hown4 hg4 hat4 hpre hcl hap hl' hlen' hrun4
    have hwr : IntKind.i64.wrap ((K : Int) + 1) = (K : Int) + 1 := wrap_small _ (by omega) (by omega)
    have hw0 : (0 : Int) ≤ (K : Int) + 1 := by omega
    have hwt : ((K : Int) + 1).toNat = K + 1 := by omega
    have hmix : Tryd.prog.follows .mixedOrders = true := by kernel_rfl
    go_wp2_with (at_builtin; refine wpList_append_run (.tmp 43) (.tmp 44) 23 _ _ _ _ H3.out rfl rfl rfl rfl ?_)
    go_region_law ((refine step_append_run ?_ (.tmp 89) (.tmp 93) 23 _ _ _ _ ?_ H4.out ?_ ?_ ?_; rfl; rfl; go_simp; go_simp))
    clear hwr hwt hw0
    go_wp2_with fail
    have h4 : Okw w4 := h2.below hb4
    refine ((hform _ hne).1 w4 _ _ h4 hsr).mono ?_
    rintro e w5 ⟨rfl, hb5⟩
    have h5 := h4.below hb5
    have hb25 : Below w2.heap.size w2 w5 := hb4.trans (hb5.mono hb4.size)
    have hbx : Below w5.heap.size w5 (w5.alloc (.cells #[] 9)) := (Below.refl _ _).alloc (Nat.le_refl _) _
    obtain ⟨v6, w6, hrun6, hown6, hg6, hat6⟩ := append_texts _ w5.heap.size _ 0 [] (own_litT w5) _ ts ((hr2.below hb25).below hbx) (by simp) (by rw [hm.out]; omega)
    have hb6 : Below w5.heap.size w5 w6 := hbx.grown hg6 (by simp) (fun k hk => by simp [Value.ownBlock] at hk; omega)
    have hby : Below w6.heap.size w6 (w6.alloc (.cells #[.string ⟨#[120]⟩] 9)) := (Below.refl _ _).alloc (Nat.le_refl _) _
    obtain ⟨v7, w7, hrun7, hown7, hg7, hat7⟩ := append_texts _ w5.heap.size _ _ _ (own_below hown6 hby) _ [⟨#[120]⟩] (truns_lit w6 ⟨#[120]⟩) (Nat.le_trans hb6.size hby.size) (by rw [hm.out]; simp; omega)
    have hb7 : Below w5.heap.size w5 w7 := (hb6.trans (hby.mono hb6.size)).grown hg7 (Nat.le_trans hb6.size hby.size) (fun k hk => by
      rcases hat6 with e | e <;> rw [e] at hk <;> simp [Value.ownBlock] at hk <;> omega)
    have hz7 : TRuns w7 v7 us := TRuns.of_own (n := 0 + ts.length + 1) (by rw [← hus.out]; simpa using hown7)
    have hz7' := hz7
    obtain ⟨A7, c7, rfl, _⟩ := hz7'
    have hz6 : TRuns w6 v6 ts := TRuns.of_own (n := 0 + ts.length) (by simpa using hown6)
    obtain ⟨A6, c6, rfl, _⟩ := hz6
    have hb27 : Below w2.heap.size w2 w7 := hb25.trans (hb7.mono hb25.size)
    have h7 := h5.below hb7
    have H6 := Lib.hid hrun6
    have H7 := Lib.hid hrun7
    clear hrun6 hown6 hg6 hat6 hrun7 hown7 hg7 hat7 hbx hby hb6
    go_wp2_with (first
      | (at_builtin; refine wpList_append_run (.tmp 105) (.tmp 106) 27 _ _ _ _ H6.out rfl rfl rfl rfl ?_)
      | (at_builtin; refine wpList_append_run (.tmp 107) (.tmp 108) 27 _ _ _ _ H7.out rfl rfl rfl rfl ?_)
      | fail)
    refine (harg w7 _ _ h7 (hr12.below hb27) hz7).mono ?_
    rintro e w8 ⟨rfl, hb8⟩
    have h8 := h7.below hb8
    have C9 := Lib.hid (repeat3 w8)
    clear H6 H7
    go_wp2_with fail
    refine C9.out.mono ?_
    rintro e w9 ⟨rfl, hb9⟩
    have h9 := h8.below hb9
    have hb79 : Below w7.heap.size w7 w9 := hb8.trans (hb9.mono hb8.size)
    have hb29 : Below w2.heap.size w2 w9 := hb27.trans (hb79.mono hb27.size)
    clear C9
    go_wp2_with fail
    refine ((hdoc l).1 w9 _ _ h9 (hr12.below hb29)).mono ?_
    rintro e w10 ⟨rfl, hb10⟩
    have h10 := h9.below hb10
    have hb5a : Below w5.heap.size w5 w10 := hb7.trans ((hb79.trans (hb10.mono hb79.size)).mono hb7.size)
    have hb4a : Below w4.heap.size w4 w10 := hb5.trans (hb5a.mono hb5.size)
    have hb2a : Below w2.heap.size w2 w10 := hb29.trans (hb10.mono hb29.size)
    go_wp2_with fail
    refine ((hform _ hne).2 w10 _ h10 (hsr.below hb4a)).mono ?_
    rintro e w11 ⟨rfl, hb11⟩
    go_wp2
    go_ret
    exact ⟨by simp, hB2.trans ((hb2a.trans (hb11.mono hb2a.size)).mono hB2.size)⟩
set_option maxRecDepth 100000 in
set_option maxHeartbeats 2000000 in
theorem refuses_else (s : ByteArray) (a b : Int) (w : World) (h : Okw w) (hc : 2000 < s.size ∨ (s.size ≤ 2000 ∧ docErr s.data.toList ≠ 0) ∨ (s.size ≤ 2000 ∧ docErr s.data.toList = 0 ∧ (docSpans s.data.toList).length = 0)) :
    Calls Tryd.prog 8 #[.string s, .int .u8 a, .int .u8 b] w (RetTrue w) := by
  have C0 := Lib.hid (alive2_any w h)
  have d1 := spAt s
  have d2 := tokAt s
  unfold SpAt at d1
  unfold TokAt at d2
  obtain ⟨er, her⟩ : ∃ er, docErr s.data.toList = er := ⟨_, rfl⟩
  obtain ⟨l, hl⟩ : ∃ l, docSpans s.data.toList = l := ⟨_, rfl⟩
  obtain ⟨ts, hts⟩ : ∃ ts, docTokS s = ts := ⟨_, rfl⟩
  rw [her, hl] at d1 hc
  rw [her, hts] at d2
  obtain ⟨n, hn⟩ : ∃ n, l.length = n := ⟨_, rfl⟩
  obtain ⟨m, hm⟩ : ∃ m, ts.length = m := ⟨_, rfl⟩
  rw [hn] at d1 hc
  rw [hm] at d2
  have D1 := Lib.hid d1; have D2 := Lib.hid d2
  clear d1 d2 her hl hts hn hm
  have hcs : (2000 < s.size) ∨ (s.size ≤ 2000 ∧ (er == 0) = false) ∨ (s.size ≤ 2000 ∧ er = 0 ∧ n = 0) := by
    rcases hc with h1 | ⟨h1, h2⟩ | h1
    · exact .inl h1
    · exact .inr (.inl ⟨h1, by simpa using h2⟩)
    · exact .inr (.inr h1)
  clear hc
  rcases hcs with hA | ⟨hA, he⟩ | ⟨hA, rfl, rfl⟩
  · have i1 : (2000 : Int) < (s.size : Int) := by omega
    go_enter Tryd.func8, Tryd.ntmps8
    go_wp2_with (go_at_call 10; refine C0.out.mono ?_; rintro e w0 ⟨rfl, hb0⟩)
    have h0 := h.below hb0
    refine (D1.out _ h0).mono ?_
    rintro e w1 ⟨A1, c1, rfl, hr1, hb1⟩
    have h1 := h0.below hb1
    go_wp2_with fail
    refine (D2.out _ h1).mono ?_
    rintro e w2 ⟨A2, c2, rfl, hr2, hb2⟩
    clear hr1 hr2
    go_wp2
    go_ret
    exact ⟨rfl, hb0.trans ((hb1.trans (hb2.mono hb1.size)).mono hb0.size)⟩
  · have i1 : decide ((2000 : Int) < (s.size : Int)) = false := by simp; omega
    go_enter Tryd.func8, Tryd.ntmps8
    go_wp2_with (go_at_call 10; refine C0.out.mono ?_; rintro e w0 ⟨rfl, hb0⟩)
    have h0 := h.below hb0
    refine (D1.out _ h0).mono ?_
    rintro e w1 ⟨A1, c1, rfl, hr1, hb1⟩
    have h1 := h0.below hb1
    go_wp2_with fail
    refine (D2.out _ h1).mono ?_
    rintro e w2 ⟨A2, c2, rfl, hr2, hb2⟩
    clear hr1 hr2
    go_wp2
    go_ret
    exact ⟨rfl, hb0.trans ((hb1.trans (hb2.mono hb1.size)).mono hb0.size)⟩
  · have i1 : decide ((2000 : Int) < (s.size : Int)) = false := by simp; omega
    go_enter Tryd.func8, Tryd.ntmps8
    go_wp2_with (go_at_call 10; refine C0.out.mono ?_; rintro e w0 ⟨rfl, hb0⟩)
    have h0 := h.below hb0
    refine (D1.out _ h0).mono ?_
    rintro e w1 ⟨A1, c1, rfl, hr1, hb1⟩
    have h1 := h0.below hb1
    go_wp2_with fail
    refine (D2.out _ h1).mono ?_
    rintro e w2 ⟨A2, c2, rfl, hr2, hb2⟩
    clear hr1 hr2
    go_wp2
    go_ret
    exact ⟨rfl, hb0.trans ((hb1.trans (hb2.mono hb1.size)).mono hb0.size)⟩

theorem rep_ne (s : ByteArray) (l l' : List Sp) (hl : docSpans s.data.toList = l) (h : l' ≠ l) : checkB s.data.toList l' = false := by
  unfold checkB; rw [hl]; simp [h]
theorem refuses_walk (s : ByteArray) (a b : Int) (w : World) (h : Okw w) (_hs : s.size ≤ maxLen) (ha : (Lit.int .u8 a).wf = true) (hb : (Lit.int .u8 b).wf = true) :
    Calls Tryd.prog 8 #[.string s, .int .u8 a, .int .u8 b] w (RetTrue w) := by
  by_cases hA : 2000 < s.size
  · exact refuses_else s a b w h (.inl hA)
  by_cases hd : docErr s.data.toList = 0
  · by_cases hn : (docSpans s.data.toList).length = 0
    · exact refuses_else s a b w h (.inr (.inr ⟨by omega, hd, hn⟩))
    · obtain ⟨a', rfl, ha'⟩ : ∃ a' : Nat, a = (a' : Int) ∧ a' < 256 := by
        have := bounds_u8 ha; exact ⟨a.toNat, by omega, by omega⟩
      obtain ⟨b', rfl, hb'⟩ : ∃ b' : Nat, b = (b' : Int) ∧ b' < 256 := by
        have := bounds_u8 hb; exact ⟨b.toNat, by omega, by omega⟩
      have hbf := back_facts s hd
      have hsl : (docSpans s.data.toList).length ≤ 2000 := by
        unfold docSpans; rw [if_pos hd]; have := spansL_len s.data.toList; rw [← Lib.size_eq] at this; omega
      have htl : (docTokS s).length ≤ 2001 := by have := tok_le s; rw [docTok_tk s hd]; omega
      have d1 := spAt s
      have d2 := tokAt s
      unfold SpAt at d1
      unfold TokAt at d2
      rw [hd] at d1 d2
      have hin : ∀ p ∈ docSpans s.data.toList, 0 ≤ p.1 ∧ p.1 ≤ p.2.1 ∧ p.2.1 ≤ 2000 := by
        intro p hp
        have h1 : 0 ≤ p.1 ∧ p.1 ≤ p.2.1 ∧ p.2.1 ≤ (s.size : Int) := by
          unfold docSpans at hp; rw [if_pos hd] at hp; rw [Lib.size_eq]; exact spans_in _ (doc_ok s hd).2 p hp
        omega
      refine refuses_main s a' b' w h (by omega) ha' hb' _ (docTokS s) _ _ (Lib.hid rfl) (Lib.hid rfl) (by omega) hsl htl d1 d2 hin (fun l' hl' => formAt s l' (rep_ne s _ l' rfl hl')) (docTokS s ++ [⟨#[120]⟩]) (Lib.hid rfl) ?_ (fun l' => formAt _ l' (wrong_doc l'))
      intro w u v hw hu hv
      refine join_arg s u v _ _ w hw hu hv (by unfold checkB; simp [hd]) ?_
      rw [List.length_append, hbf.2]; simp
  · exact refuses_else s a b w h (.inr (.inl ⟨by omega, hd⟩))
end Go.Proofs.YtephhejfkihhgaaDoor
