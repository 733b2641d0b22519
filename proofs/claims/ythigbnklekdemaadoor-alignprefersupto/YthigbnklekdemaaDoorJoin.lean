/- The law RunesJoin, walked: two texts one behind the other have the runes of both. -/
import Derived.Test.YthigbnklekdemaaDoorAlive
import Derived.Test.YthigbnklekdemaaDoorPlain2
import Derived.OwnWalk
import Derived.Maps.AppendAt
namespace Go.Proofs.YthigbnklekdemaaDoor
open Go.RowKit Go.Shelf

def RetTrue (w : World) (e : Ending) (w' : World) : Prop := e = .returned (.bool true) ∧ Below w.heap.size w w'

theorem addr_add (b o j : Nat) : (⟨b, o, none⟩ : Addr).add j = ⟨b, o + j, none⟩ := by
  unfold Addr.add
  by_cases h : j = 0
  · subst h; rfl
  · simp [h]
/-- An append whose run is known, guarded or not. -/
theorem wpList_append_run {P : Program} {w : World} {ops : Array Oper} {rest : List Oper} {o : Oper} {a : Act} {Q : Exit → Act → World → Prop} (s x : Operand) (t : TypeId) (v u v' : Value) (w' : World)
    (hrun : (Builtin.append_ #[t, t] o.type #[v, u]).run P w = .ok v' w') (hw : Region.wanted o (yielded ops a.tmps) = true)
    (ho : o.op = .call { callee := .builtin .append, args := #[s, x], argTypes := #[t, t] }) (hs : a.eval s = v) (hx : a.eval x = u)
    (h : wpList P ops Q rest (a.put o.dst v') w') : wpList P ops Q (o :: rest) a w := by
  refine wpList_step fun K hK => ?_
  rw [if_pos hw]
  unfold Oper.wp execOp
  simp only [ho, resolve, invoke, builtin, Sem.run_bind, Sem.run_pure, Result.andThen_ok, List.map_toArray, List.map_cons, List.map_nil, hs, hx, hrun]
  exact hK _ _ h
/-- append(v, u...) of a row of the call's own and a list of runes. -/
theorem append_runs (w : World) (base : Nat) (v : Value) (n : Nat) (xs : List Value) (hown : w.ownsRow base 21 1 v n xs) (u : Value) (ys : List Int) (hu : Runs w u ys) (hbase : base ≤ w.heap.size) (hlen : (n + ys.length) * 4 ≤ 140737488355328) :
    ∃ v' w', (Builtin.append_ #[37, 37] 37 #[v, u]).run Tryd.prog w = .ok v' w' ∧ w'.ownsRow base 21 1 v' (n + ys.length) (xs ++ ys.map (Value.int .i32)) ∧ w.grownBy w' v.ownBlock ∧ (v'.ownBlock = v.ownBlock ∨ v'.ownBlock = some w.heap.size) := by
  obtain ⟨i0, hi, hz0, hz1, hz2⟩ := info_parts info32
  obtain ⟨A, c, rfl, hxc, ⟨hxm, hc0⟩, hxx⟩ := hu
  cases A with
  | none =>
    obtain rfl := hc0 rfl
    have h0 : ys = [] := List.eq_nil_of_length_eq_zero (by omega)
    subst h0
    exact ⟨v, w, run_append_owned_none (P := Tryd.prog) (w := w) base 37 37 21 i0 1 Tryd.underlying37 hi v n xs hown, by simpa using hown, World.grownBy.refl w _, .inl rfl⟩
  | some ad =>
    have hcells : ∀ j u, (ys.map (Value.int .i32))[j]? = some u → w.cell? (ad.add j) = some u := by
      intro j u hj
      rw [List.getElem?_map] at hj
      obtain ⟨z, hz, rfl⟩ := Option.map_eq_some_iff.1 hj
      obtain ⟨hjl, hjz⟩ := List.getElem?_eq_some_iff.1 hz
      obtain ⟨b, o, e, _, hc⟩ := hxx (by omega)
      injection e with e
      subst e
      rw [addr_add, hc j hjl, List.getD_eq_getElem?_getD, hz]
      rfl
    obtain ⟨v', w', hrun, h2, h3, _, h5⟩ := run_append_own_at (P := Tryd.prog) w base 37 37 21 i0 _ 1 4 Tryd.underlying37 hi hz0 hz1 hz2 rfl (by decide) v n xs hown ad ys.length c (ys.map (Value.int .i32)) (by simp) hcells (fun u hu => by obtain ⟨z, _, rfl⟩ := List.mem_map.1 hu; rfl) (by unfold maxLen; omega) hlen hbase
    exact ⟨v', w', hrun, h2, h3, h5⟩
theorem own_lit (w : World) : (w.alloc (.cells #[] 21)).ownsRow w.heap.size 21 1 (.slice (some ⟨w.heap.size, 0, none⟩) 0 0) 0 [] :=
  ⟨by simp, .inr ⟨w.heap.size, 0, #[], rfl, Nat.le_refl _, heap_alloc_new w _, Nat.le_refl _, by simp [maxLen], by simp, by simp⟩⟩
/-- Decode answers the runes xs and the error er at the text s. -/
def DecAt (s : ByteArray) (xs : List Int) (er : Int) : Prop := ∀ w, Okw w → Calls Tryd.prog 22 #[.string s] w fun e w' => ∃ A c, e = .returned (.tuple #[.slice A xs.length c, .int .i64 er]) ∧ Runs w' (.slice A xs.length c) xs ∧ Below w.heap.size w w'
theorem decAt (s : ByteArray) (hs : s.size * 4 ≤ 140737488355328) : DecAt s (decRunes s.data.toList) (decErr s.data.toList) := fun w h => decode_runs s w hs h.1 h.2
theorem decAt_yes (s : ByteArray) (hs : s.size * 4 ≤ 140737488355328) (hv : Lib.validD s.data.toList = true) : DecAt s (items s.data.toList) 0 := by
  have := decAt s hs; simpa [decRunes, decErr, hv] using this
theorem decAt_no (s : ByteArray) (hs : s.size * 4 ≤ 140737488355328) (hv : Lib.validD s.data.toList = false) : DecAt s [] 3 := by
  have := decAt s hs; simpa [decRunes, decErr, hv] using this
theorem app_toList (a b : ByteArray) : (a ++ b).data.toList = a.data.toList ++ b.data.toList := by simp
theorem app_size (a b : ByteArray) : (a ++ b).size = a.size + b.size := by simp

end Go.Proofs.YthigbnklekdemaaDoor
