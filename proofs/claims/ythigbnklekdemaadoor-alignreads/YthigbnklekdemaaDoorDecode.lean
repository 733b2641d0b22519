/- runes.Decode, Letter, Letters, Token: what each answers, for every string. -/
import Derived.Test.YthigbnklekdemaaDoorIter
namespace Go.Proofs.YthigbnklekdemaaDoor
open Go.RowKit Go.Shelf
attribute [local go_sem] Oper.semAt_some

theorem info32 : (Tryd.prog.info? 21).map (fun i => (i.zero, i.size, i.bytes)) = some (some (.int .i32 0), 1, 4) := by kernel_rfl

/-- What Decode answers: the runes and 0, or nothing and 3. -/
def DecPost (s : ByteArray) (w : World) (e : Ending) (w' : World) : Prop :=
  ∃ v, e = .returned (.tuple #[v, .int .i64 (if Lib.validD s.data.toList then 0 else 3)]) ∧
    w'.ownsRow w.heap.size 21 1 v (if Lib.validD s.data.toList then items s.data.toList else []).length ((if Lib.validD s.data.toList then items s.data.toList else []).map (Value.int .i32)) ∧ Below w.heap.size w w'

set_option maxRecDepth 100000 in
set_option maxHeartbeats 2000000 in
theorem decode_any (s : ByteArray) (w : World) (hs : s.size * 4 ≤ 140737488355328) (hT : Tabs w) (hlow : 0 < w.heap.size ∧ 1 < w.heap.size) :
    Calls Tryd.prog 22 #[.string s] w (DecPost s w) := by
  have hsm : s.size ≤ maxLen := by unfold maxLen; omega
  obtain ⟨i0, hi, hz0, hz1, hz2⟩ := info_parts info32
  refine (callsIn_wide (n := 6)).1 ?_
  refine callsIn_of_wp_marks Tryd.func22 rfl trivial ?_ rfl
  simp only [Tryd.ntmps22, List.size_toArray, List.length_cons, List.length_nil, Nat.reduceAdd, Nat.reduceSub, Array.replicate_succ, Array.replicate_zero, List.push_toArray, List.append_toArray, List.nil_append, List.cons_append]
  gi_wp2
  refine wpIn_wide.2 (wp_scope_straight ((wpIn_wide (n := 6)).1 ?_))
  gi_wp2_with (first | (refine ⟨trivial, ?_⟩; gi_at_call 32; refine (callsIn_wide.2 (runesOf_any _ _)).mono ?_; rintro e w' ⟨rfl, rfl⟩) | (refine wpIn_label ?_))
  have bL := Boxed.new w 37 (.slice none 0 0)
  have bE := Boxed.new (w.alloc (.cells #[.slice none 0 0] 37)) 24 (.int .i64 0)
  have bS := Boxed.new ((w.alloc (.cells #[.slice none 0 0] 37)).alloc (.cells #[.int .i64 0] 24)) 9 (.string s)
  rw [World.size_alloc] at bE
  rw [World.size_alloc, World.size_alloc] at bS
  have hB0 : Below w.heap.size w (((w.alloc (.cells #[.slice none 0 0] 37)).alloc (.cells #[.int .i64 0] 24)).alloc (.cells #[.string s] 9)) := (((Below.refl _ w).alloc (Nat.le_refl _) _).alloc (by simp) _).alloc (by simp; omega) _
  refine wpIn_rangeFunc_ownG rfl (by decide) (gf := 41) (lb := #[.pointer (some ⟨w.heap.size + 1 + 1, 0, none⟩)]) rfl trivial (enters_of Tryd.func41 (by kernel_rfl) rfl)
    (iter_stops 5 (by decide) (w.heap.size + 1 + 1) w.heap.size s hsm _ (by simp; omega) (by simp) (hT.below hB0) hlow bS.cell) Keep.trans (keepK_b (by simp; omega) (by simp)) (Below.refl _ _) (fun _ => rfl)
    (fun (pre : List Int) W => (((∃ v, Boxed W w.heap.size 37 v ∧ W.ownsRow w.heap.size 21 1 v pre.length (pre.map (Value.int .i32)) ∧ ∀ x ∈ pre, x ≠ -1) ∧ Boxed W (w.heap.size + 1) 24 (.int .i64 0)) ∧ Boxed W (w.heap.size + 1 + 1) 9 (.string s)) ∧ Below w.heap.size w W)
    (fun c (pre : List Int) W => (((c = .exit 0 ∧ (-1) ∈ pre) ∧ Boxed W w.heap.size 37 (.slice none 0 0)) ∧ Boxed W (w.heap.size + 1) 24 (.int .i64 3)) ∧ Below w.heap.size w W)
    (OwnFrom.and (OwnFrom.and (OwnFrom.and (Own.from (holdsRow_own w.heap.size w.heap.size 37 21 1 (fun pre : List Int => pre.length) (fun pre : List Int => pre.map (Value.int .i32)) (fun (pre : List Int) _ => ∀ x ∈ pre, x ≠ -1)) _) (Own.from (boxed_own _ _ _) _)) (Own.from (boxed_own _ _ _) _)) (ownFrom_below (Nat.le_refl _) (by simp; omega)))
    (fun c => OwnFrom.and (OwnFrom.and (OwnFrom.and (ownFrom_pure _ (fun pre : List Int => c = .exit 0 ∧ (-1) ∈ pre)) (Own.from (boxed_own _ _ _) _)) (Own.from (boxed_own _ _ _) _)) (ownFrom_below (Nat.le_refl _) (by simp; omega)))
    ⟨⟨⟨⟨_, (bL.alloc _).alloc _, World.ownsRow_nil _ _ _ _, by simp⟩, bE.alloc _⟩, bS⟩, hB0⟩
    (fun x => { tmps := #[.string s, undef, .slice none 0 0, .int .i64 0, .pointer (some ⟨w.heap.size, 0, none⟩), .pointer (some ⟨w.heap.size + 1, 0, none⟩), .int .i32 x, .string s, .func (.func 41) #[] #[.pointer (some ⟨w.heap.size + 1 + 1, 0, none⟩)], .int .i32 x, undef, undef, undef, undef, undef, undef, undef, undef, undef], defers := [] }) ?assign ?body ?done ?stop
  case assign =>
    intro l x W K hK
    gi_wp2
    exact hK
  case body =>
    rintro l pre x W ⟨⟨⟨⟨v, hv, hrow, hno⟩, hE⟩, hS⟩, hB⟩ hlt
    have hno' := Lib.hid hno; clear hno
    have hc := hv.cell
    have hce := hE.cell
    have hf := hv.frozen
    have hfe := hE.frozen
    by_cases hx : x = -1
    · subst hx
      gi_wp2
      exact ⟨((KeepsOthers.setCell _ _ _).trans (KeepsOthers.setCell _ _ _)).from _, ⟨⟨⟨rfl, by simp⟩, (hv.set _).other (by omega) _⟩, (hE.other (by omega) _).set _⟩, (hB.setCell (p := ⟨w.heap.size, 0, none⟩) (Nat.le_refl _) _).setCell (p := ⟨w.heap.size + 1, 0, none⟩) (Nat.le_succ _) _⟩
    · have hx1 : (x == -1) = false := by simpa using hx
      gi_wp2_with (gi_at_builtin; refine wpListIn_append_own _ rfl _ _ 37 rfl w.heap.size 21 i0 (.int .i32 0) 1 4 Tryd.underlying37 hi hz0 hz1 hz2 rfl (by decide) _ _ _ rfl (hrow.alloc _) ⟨W.heap.size, 0, none⟩ 1 1 [.int .i32 x] rfl rfl (cell_one_new _ _ _) (by simp [Value.oneCell']) (by unfold maxLen; omega) (by omega) (by have := hB.size; simp; omega) ?_; intro v' w1 hown' hgrow _; obtain ⟨g', cap', rfl⟩ := ownsRow_succ hown'; have hE1 := ((hE.alloc _).kept hgrow (hE.not_row (by decide) hrow)).other (by omega : w.heap.size + 1 ≠ w.heap.size) (.slice (some ⟨g', 0, none⟩) (pre.length + 1) cap'); have hS1 := ((hS.alloc _).kept hgrow (hS.not_row (by decide) hrow)).other (by omega : w.heap.size + 1 + 1 ≠ w.heap.size) (.slice (some ⟨g', 0, none⟩) (pre.length + 1) cap'); obtain ⟨hv1, hv2, hr2, hk2, hb2⟩ := hv.appended (by decide) hrow hB.size (Nat.le_refl _) hown' hgrow; have hc1 := hv1.cell; have hf1 := hv1.frozen)
      exact ⟨hk2.from _, ⟨hb2, Eq.trans hS1 (Eq.symm hS)⟩, ⟨⟨⟨_, hv2, by simpa using hr2, fun y hy => by rcases List.mem_append.1 hy with h | h; exact hno'.out y h; simp at h; omega⟩, hE1⟩, hS1⟩, hB.trans hb2⟩
  case done =>
    rintro D ys W hD rfl ⟨⟨⟨⟨v, hv, hrow, hno⟩, hE⟩, hS⟩, hB⟩ hK
    have hc := hv.cell
    have hce := hE.cell
    gi_wp2
    gi_region
    gi_wp2
    refine ⟨by simp, .inl ⟨_, _, rfl, run_takeDeferred hK, ?_⟩⟩
    have hval : Lib.validD s.data.toList = true := (items_valid _).1 hno
    refine ⟨_, results_tmp2 rfl _ _ _, ?_⟩
    unfold DecPost
    rw [hval]
    exact ⟨v, rfl, ownsRow_putObj (W := W.drew) hrow _ hK rfl, hB.drew.trans (belowK_b (w := w) (Nat.le_refl _) W.drew D _ _ (by simp at hD; omega) hK rfl rfl)⟩
  case stop =>
    rintro D c pre W hD hp ⟨⟨⟨⟨rfl, hm⟩, hv⟩, hE⟩, hB⟩ hK
    have hc := hv.cell
    have hce := hE.cell
    gi_wp2
    gi_region
    gi_wp2
    refine ⟨by simp, .inl ⟨_, _, rfl, run_takeDeferred hK, ?_⟩⟩
    have hval : Lib.validD s.data.toList = false := by
      cases h : Lib.validD s.data.toList with
      | false => rfl
      | true => exact absurd rfl ((items_valid _).2 h _ (hp.subset hm))
    refine ⟨_, results_tmp2 rfl _ _ _, ?_⟩
    unfold DecPost
    rw [hval]
    exact ⟨_, rfl, World.ownsRow_nil _ _ _ _, hB.drew.trans (belowK_b (w := w) (Nat.le_refl _) W.drew D _ _ (by simp at hD; omega) hK rfl rfl)⟩
end Go.Proofs.YthigbnklekdemaaDoor
