/- The law RunesJoin, walked: two texts one behind the other have the runes of both. -/
import Derived.Test.YtnacllcajadnoaaDoorAlive
import Derived.Test.YtnacllcajadnoaaDoorCmp
import Derived.Test.YtnacllcajadnoaaDoorPlain2
import Derived.OwnWalk
import Derived.Maps.AppendAt
namespace Go.Proofs.YtnacllcajadnoaaDoor
open Go.RowKit Go.Shelf

def RetTrue (w : World) (e : Ending) (w' : World) : Prop := e = .returned (.bool true) ∧ Below w.heap.size w w'

theorem addr_add (b o j : Nat) : (⟨b, o, none⟩ : Addr).add j = ⟨b, o + j, none⟩ := by
  unfold Addr.add
  by_cases h : j = 0
  · subst h; rfl
  · simp [h]
/-- An append whose run is known, guarded or not. -/
theorem wpList_append_run {P : Program} {w : World} {ops : Array Oper} {rest : List Oper} {o : Oper} {a : Act} {Q : Exit → Act → World → Prop} (s x : Operand) (t : TypeId) (v u v' : Value) (w' : World)
    (hrun : (Builtin.append_ #[t, t] o.type #[v, u]).run P w = .ok v' w') (hw : Region.wanted o (yielded ops a.tmps) = true)
    (ho : o.op = .call { callee := .builtin .append, args := #[s, x], argTypes := #[t, t] }) (hs : a.eval s = v) (hx : a.eval x = u)
    (h : wpList P ops Q rest (a.put o.dst v') w') : wpList P ops Q (o :: rest) a w := by
  refine wpList_step fun K hK => ?_
  rw [if_pos hw]
  unfold Oper.wp execOp
  simp only [ho, resolve, invoke, builtin, Sem.run_bind, Sem.run_pure, Result.andThen_ok, List.map_toArray, List.map_cons, List.map_nil, hs, hx, hrun]
  exact hK _ _ h
/-- append(v, u...) of a row of the call's own and a list of runes. -/
theorem append_runs (w : World) (base : Nat) (v : Value) (n : Nat) (xs : List Value) (hown : w.ownsRow base 21 1 v n xs) (u : Value) (ys : List Int) (hu : Runs w u ys) (hbase : base ≤ w.heap.size) (hlen : (n + ys.length) * 4 ≤ 140737488355328) :
    ∃ v' w', (Builtin.append_ #[23, 23] 23 #[v, u]).run Tryd.prog w = .ok v' w' ∧ w'.ownsRow base 21 1 v' (n + ys.length) (xs ++ ys.map (Value.int .i32)) ∧ w.grownBy w' v.ownBlock ∧ (v'.ownBlock = v.ownBlock ∨ v'.ownBlock = some w.heap.size) := by
  obtain ⟨i0, hi, hz0, hz1, hz2⟩ := info_parts info32
  obtain ⟨A, c, rfl, hxc, ⟨hxm, hc0⟩, hxx⟩ := hu
  cases A with
  | none =>
    obtain rfl := hc0 rfl
    have h0 : ys = [] := List.eq_nil_of_length_eq_zero (by omega)
    subst h0
    exact ⟨v, w, run_append_owned_none (P := Tryd.prog) (w := w) base 23 23 21 i0 1 Tryd.underlying23 hi v n xs hown, by simpa using hown, World.grownBy.refl w _, .inl rfl⟩
  | some ad =>
    have hcells : ∀ j u, (ys.map (Value.int .i32))[j]? = some u → w.cell? (ad.add j) = some u := by
      intro j u hj
      rw [List.getElem?_map] at hj
      obtain ⟨z, hz, rfl⟩ := Option.map_eq_some_iff.1 hj
      obtain ⟨hjl, hjz⟩ := List.getElem?_eq_some_iff.1 hz
      obtain ⟨b, o, e, _, hc⟩ := hxx (by omega)
      injection e with e
      subst e
      rw [addr_add, hc j hjl, List.getD_eq_getElem?_getD, hz]
      rfl
    obtain ⟨v', w', hrun, h2, h3, _, h5⟩ := run_append_own_at (P := Tryd.prog) w base 23 23 21 i0 _ 1 4 Tryd.underlying23 hi hz0 hz1 hz2 rfl (by decide) v n xs hown ad ys.length c (ys.map (Value.int .i32)) (by simp) hcells (fun u hu => by obtain ⟨z, _, rfl⟩ := List.mem_map.1 hu; rfl) (by unfold maxLen; omega) hlen hbase
    exact ⟨v', w', hrun, h2, h3, h5⟩
theorem own_lit (w : World) : (w.alloc (.cells #[] 21)).ownsRow w.heap.size 21 1 (.slice (some ⟨w.heap.size, 0, none⟩) 0 0) 0 [] :=
  ⟨by simp, .inr ⟨w.heap.size, 0, #[], rfl, Nat.le_refl _, heap_alloc_new w _, Nat.le_refl _, by simp [maxLen], by simp, by simp⟩⟩
/-- Decode answers the runes xs and the error er at the text s. -/
def DecAt (s : ByteArray) (xs : List Int) (er : Int) : Prop := ∀ w, Okw w → Calls Tryd.prog 10 #[.string s] w fun e w' => ∃ A c, e = .returned (.tuple #[.slice A xs.length c, .int .i64 er]) ∧ Runs w' (.slice A xs.length c) xs ∧ Below w.heap.size w w'
theorem decAt (s : ByteArray) (hs : s.size * 4 ≤ 140737488355328) : DecAt s (decRunes s.data.toList) (decErr s.data.toList) := fun w h => decode_runs s w hs h.1 h.2
theorem decAt_yes (s : ByteArray) (hs : s.size * 4 ≤ 140737488355328) (hv : Lib.validD s.data.toList = true) : DecAt s (items s.data.toList) 0 := by
  have := decAt s hs; simpa [decRunes, decErr, hv] using this
theorem decAt_no (s : ByteArray) (hs : s.size * 4 ≤ 140737488355328) (hv : Lib.validD s.data.toList = false) : DecAt s [] 3 := by
  have := decAt s hs; simpa [decRunes, decErr, hv] using this
theorem app_toList (a b : ByteArray) : (a ++ b).data.toList = a.data.toList ++ b.data.toList := by simp
theorem app_size (a b : ByteArray) : (a ++ b).size = a.size + b.size := by simp

set_option maxRecDepth 100000 in
set_option maxHeartbeats 1000000 in
theorem join_both (a b : ByteArray) (w : World) (h : Okw w) (hA : a.size ≤ 2000) (hB : b.size ≤ 2000) (xs ys zs : List Int)
    (d1 : DecAt a xs 0) (d2 : DecAt b ys 0) (d3 : DecAt (a ++ b) zs 0) (hzs : Hid (zs = xs ++ ys)) (hl1 : xs.length ≤ 2000) (hl2 : ys.length ≤ 2000) :
    Calls Tryd.prog 6 #[.string a, .string b] w (RetTrue w) := by
  have C0 := Lib.hid (alive_any w h)
  have hA' : decide ((2000 : Int) < (a.size : Int)) = false := by simp; omega
  have hB' : decide ((2000 : Int) < (b.size : Int)) = false := by simp; omega
  go_enter Tryd.func6, Tryd.ntmps6
  go_wp2_with (go_at_call 9; refine C0.out.mono ?_; rintro e w0 ⟨rfl, hb0⟩)
  have h0 := h.below hb0
  refine (d1 _ h0).mono ?_
  rintro e w1 ⟨A1, c1, rfl, hr1, hb1⟩
  have h1 := h0.below hb1
  go_wp2_with fail
  refine (d2 _ h1).mono ?_
  rintro e w2 ⟨A2, c2, rfl, hr2, hb2⟩
  have h2 := h1.below hb2
  go_wp2_with fail
  refine (d3 _ h2).mono ?_
  rintro e w3 ⟨A3, c3, rfl, hr3, hb3⟩
  have hba : Below w3.heap.size w3 (w3.alloc (.cells #[] 21)) := (Below.refl _ _).alloc (Nat.le_refl _) _
  have hr1' := (((hr1.below hb2).below hb3).below hba)
  obtain ⟨v4, w4, hrun4, hown4, hg4, hat4⟩ := append_runs _ w3.heap.size _ 0 [] (own_lit w3) _ xs hr1' (by simp) (by omega)
  have hb4 : Below w3.heap.size w3 w4 := hba.grown hg4 (by simp) (fun k hk => by simp [Value.ownBlock] at hk; omega)
  have hr2' := (hr2.below hb3).below hb4
  obtain ⟨v5, w5, hrun5, hown5, hg5, hat5⟩ := append_runs _ w3.heap.size _ _ _ hown4 _ ys hr2' hb4.size (by omega)
  have hb5 : Below w3.heap.size w3 w5 := hb4.grown hg5 hb4.size (fun k hk => by
    rcases hat4 with e | e <;> rw [e] at hk <;> simp [Value.ownBlock] at hk <;> omega)
  have hz : Runs w5 v5 zs := Runs.of_own (n := 0 + xs.length + ys.length) (by rw [hzs.out]; simpa using hown5)
  have C := Lib.hid (same_any _ _ _ _ w5 (hr3.below hb5) hz)
  have hz' := hz
  obtain ⟨A5, c5, rfl, _⟩ := hz'
  have h4 : Runs w4 v4 xs := Runs.of_own (n := 0 + xs.length) (by simpa using hown4)
  obtain ⟨A4, c4, rfl, _⟩ := h4
  clear hz hown4 hown5 hg4 hg5 hat4 hat5 hr1' hr2' hr1 hr2 hr3
  have H4 := Lib.hid hrun4
  have H5 := Lib.hid hrun5
  clear hrun4 hrun5
  go_wp2_with (first
    | (at_builtin; refine wpList_append_run (.tmp 48) (.tmp 49) 23 _ _ _ _ H4.out rfl rfl rfl rfl ?_)
    | (at_builtin; refine wpList_append_run (.tmp 50) (.tmp 51) 23 _ _ _ _ H5.out rfl rfl rfl rfl ?_)
    | (go_at_call 14; refine C.out.mono ?_; rintro e w6 ⟨rfl, hd6⟩))
  go_ret
  exact ⟨by simp, hb0.trans (((hb1.trans ((hb2.trans ((hb3.trans ((hb5.trans (hd6.below _)).mono hb3.size)).mono hb2.size)).mono hb1.size))).mono hb0.size)⟩

set_option maxRecDepth 100000 in
set_option maxHeartbeats 1000000 in
theorem join_no (a b : ByteArray) (w : World) (h : Okw w) (hA : a.size ≤ 2000) (hB : b.size ≤ 2000) (xs ys zs : List Int) (e1 e2 e3 : Int)
    (d1 : DecAt a xs e1) (d2 : DecAt b ys e2) (d3 : DecAt (a ++ b) zs e3) (h12 : (e1 = 3 ∧ e2 = 3) ∨ (e1 = 0 ∧ e2 = 3 ∧ e3 = 3) ∨ (e1 = 3 ∧ e2 = 0 ∧ e3 = 3)) :
    Calls Tryd.prog 6 #[.string a, .string b] w (RetTrue w) := by
  have C0 := Lib.hid (alive_any w h)
  have hA' : decide ((2000 : Int) < (a.size : Int)) = false := by simp; omega
  have hB' : decide ((2000 : Int) < (b.size : Int)) = false := by simp; omega
  rcases h12 with ⟨rfl, rfl⟩ | ⟨rfl, rfl, rfl⟩ | ⟨rfl, rfl, rfl⟩
  all_goals
    go_enter Tryd.func6, Tryd.ntmps6
    go_wp2_with (go_at_call 9; refine C0.out.mono ?_; rintro e w0 ⟨rfl, hb0⟩)
    have h0 := h.below hb0
    refine (d1 _ h0).mono ?_
    rintro e w1 ⟨A1, c1, rfl, hr1, hb1⟩
    have h1 := h0.below hb1
    go_wp2_with fail
    refine (d2 _ h1).mono ?_
    rintro e w2 ⟨A2, c2, rfl, hr2, hb2⟩
    have h2 := h1.below hb2
    go_wp2_with fail
    refine (d3 _ h2).mono ?_
    rintro e w3 ⟨A3, c3, rfl, hr3, hb3⟩
    clear hr1 hr2 hr3
    go_wp2
    go_ret
    exact ⟨rfl, hb0.trans ((hb1.trans ((hb2.trans (hb3.mono hb2.size)).mono hb1.size)).mono hb0.size)⟩

set_option maxRecDepth 100000 in
set_option maxHeartbeats 1000000 in
theorem join_walk (a b : ByteArray) (w : World) (h : Okw w) (ha : a.size ≤ maxLen) (hb : b.size ≤ maxLen) :
    Calls Tryd.prog 6 #[.string a, .string b] w (RetTrue w) := by
  unfold maxLen at ha hb
  have C0 := Lib.hid (alive_any w h)
  by_cases hA : 2000 < a.size
  · go_enter Tryd.func6, Tryd.ntmps6
    go_wp2_with (go_at_call 9; refine C0.out.mono ?_; rintro e w0 ⟨rfl, hb0⟩)
    go_ret
    exact ⟨rfl, hb0⟩
  by_cases hB : 2000 < b.size
  · have hA' : decide ((2000 : Int) < (a.size : Int)) = false := by simp; omega
    go_enter Tryd.func6, Tryd.ntmps6
    go_wp2_with (go_at_call 9; refine C0.out.mono ?_; rintro e w0 ⟨rfl, hb0⟩)
    go_ret
    exact ⟨rfl, hb0⟩
  have hab : (a ++ b).size * 4 ≤ 140737488355328 := by rw [app_size]; omega
  cases va : Lib.validD a.data.toList <;> cases vb : Lib.validD b.data.toList
  · exact join_no a b w h (by omega) (by omega) _ _ _ _ _ _ (decAt_no a (by omega) va) (decAt_no b (by omega) vb) (decAt _ hab) (.inl ⟨rfl, rfl⟩)
  · exact join_no a b w h (by omega) (by omega) _ _ _ _ _ _ (decAt_no a (by omega) va) (decAt_yes b (by omega) vb) (decAt_no _ hab (by rw [app_toList]; exact join_bad _ _ va vb)) (.inr (.inr ⟨rfl, rfl, rfl⟩))
  · exact join_no a b w h (by omega) (by omega) _ _ _ _ _ _ (decAt_yes a (by omega) va) (decAt_no b (by omega) vb) (decAt_no _ hab (by rw [app_toList, (items_join _ _ va).2]; exact vb)) (.inr (.inl ⟨rfl, rfl, rfl⟩))
  · have l1 := items_le a.data.toList
    have l2 := items_le b.data.toList
    rw [← Lib.size_eq] at l1 l2
    exact join_both a b w h (by omega) (by omega) _ _ _ (decAt_yes a (by omega) va) (decAt_yes b (by omega) vb) (decAt_yes _ hab (by rw [app_toList, (items_join _ _ va).2]; exact vb)) (Lib.hid (by rw [app_toList, (items_join _ _ va).1])) (by omega) (by omega)
end Go.Proofs.YtnacllcajadnoaaDoor
