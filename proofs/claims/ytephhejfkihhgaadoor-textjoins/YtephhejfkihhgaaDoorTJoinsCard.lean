/- TextJoins answers true for every text, spans, and other texts: whether the spans part the text, and it with the other texts in the tokens' places, or the error, are the document's. Conditions: the card's own (the listed tables of unicode/utf8 hold what the program's text lays; each string and slice that is read has less than 2^47 bytes). -/
import Derived.Test.YtephhejfkihhgaaDoorTJoins
import Derived.Test.YtephhejfkihhgaaDoorTArg
import Derived.Test.YtephhejfkihhgaaDoorFrame
namespace Go.Proofs.YtephhejfkihhgaaDoor.textJoins
open Go.ChangeShapes Go.WideShapes Go.ChangeAt Go.RowKit Go.Shelf
open Go.ChangeMaps (open_string shut_string)
open Go.Joins

theorem contract (H : Type) (enc : TypeId × Value → H) (W : World) (base : Nat) (args : Array Value) (ds gs : List (DataW H)) (before : List MemPlace)
    (hval : ∀ (j : Nat) t v, Tryd.f4.params[j]? = some t → args[j]? = some v → Value.okWide Tryd.prog W .any base t v)
    (hW : DataW.Whole enc Tryd.prog Tryd.f4.params.toList Rows.textJoinsSpec.vars false W args.toList ds gs before) (hL : laidMetH Tryd.prog Rows.textJoinsRow.laid W) (hZ : (DataW.weightsEach Tryd.prog (Tryd.f4.params.toList ++ (OpenSpec.ofChange Rows.textJoinsSpec).bare.plain.varTypes Tryd.prog) (ds ++ gs)).all (· ≤ reachBytes) = true) :
    Calls Tryd.prog 4 args W fun e W' => ∃ v, e = .returned v ∧ Rows.textJoinsSpec.post enc Tryd.prog Tryd.f4 false true false false W args v W' := by
  have hW' := hW
  obtain ⟨p, q, hA0, hV, rfl, hfz, hnd⟩ := hW
  have hA : DataW.TrodAll enc Tryd.prog W 0 (fun _ => true) true Tryd.f4.params.toList args.toList ds p := hA0
  rw [Tryd.params4] at hA hval
  obtain ⟨v0, vs0, d0, ds0, p0, q0, hargs, rfl, rfl, h0, r0⟩ := trodAll_cons hA
  obtain ⟨rfl, rfl, rfl⟩ := trodAll_nil r0
  obtain rfl : args = #[v0] := by cases args; simp_all
  obtain ⟨rfl, rfl⟩ := trodVars_none hV
  obtain ⟨j0, j1, j2, j3, y0, y1, y2, y3, nn, rfl, rfl, _, g0, g1, g2, g3⟩ := open_agg4 Tryd.underlying34 (by kernel_rfl) (by kernel_rfl) (hval 0 34 v0 rfl rfl) h0
  obtain ⟨a0, e0, e0', _⟩ := DataW.trod_string Tryd.underlying9 g0
  obtain ⟨l, hl⟩ := spans_of_trod g1
  have hw : (DataW.weights Tryd.prog 9 y0.1 ++ (DataW.weights Tryd.prog 23 y1.1 ++ (DataW.weights Tryd.prog 27 y2.1 ++ (DataW.weights Tryd.prog 4 y3.1 ++ [])))).all (· ≤ reachBytes) = true := by
    have h9 := hZ
    have hv9 : DataW.weightsEach (H := H) Tryd.prog ((OpenSpec.ofChange Rows.textJoinsSpec).bare.plain.varTypes Tryd.prog) [] = [] := by
      cases (OpenSpec.ofChange Rows.textJoinsSpec).bare.plain.varTypes Tryd.prog <;> simp only [DataW.weightsEach]
    rw [Tryd.params4] at h9
    simp only [List.cons_append, List.nil_append, List.append_nil, DataW.weightsEach, hv9, DataW.weights, Tryd.underlying34, List.map_cons, List.map_nil] at h9 ⊢
    exact h9
  rw [List.all_append, List.all_append, List.all_append, Bool.and_eq_true, Bool.and_eq_true, Bool.and_eq_true] at hw
  obtain ⟨ts, ht, htl⟩ := texts_of_trod g2 hw.2.2.1
  obtain ⟨ow, e3, _⟩ := DataW.trod_bool Tryd.underlying4 g3
  obtain rfl : j0 = .string a0 := by simpa using e0
  obtain rfl : j3 = .bool ow := by simpa using e3
  have hs0 : a0.size ≤ 140737488351232 := by
    have h9 := hw.1
    rw [e0'] at h9
    simp only [DataW.weights, List.all_cons, List.all_nil, Bool.and_true, decide_eq_true_eq] at h9
    have h3 : reachBytes = 140737488351232 := by decide
    rw [h3] at h9
    rw [Lib.size_eq]; exact h9
  refine (joins_walk a0 j1 j2 ow l ts W (okw_of_laid hL) hs0 hl ht htl).mono ?_
  rintro e W' ⟨rfl, bel⟩
  exact ⟨_, rfl, law_post (tb := 4) laidOut (by decide +kernel) hW' bel Tryd.underlying4 rfl rfl rfl rfl rfl⟩

theorem reads (os : Os) {H : Type} (enc : TypeId × Value → H) : ∃ places, DataW.whole enc Tryd.prog ((laidWorld os).forCall (fun _ _ => 0) ⟨#[], #[.agg #[.string ⟨#[]⟩, .slice none 0 0, .slice none 0 0, .bool false]], []⟩).memory Tryd.f4.params.toList Rows.textJoinsSpec.vars false #[Value.agg #[.string ⟨#[]⟩, .slice none 0 0, .slice none 0 0, .bool false]].toList 8 = some ([.agg [.lit (.string []), .nil, .nil, .lit (.bool false)]], [], places) :=
  ⟨[], by kernel_rfl⟩

set_option maxRecDepth 100000 in
theorem lifted (os : Os) (started : os.Started) (H : Type) (enc : TypeId × Value → H) (F : Stop.Interp) :
    ReturnsInHanded {} Tryd.checked os 4 .any ((OpenSpec.ofChange Rows.textJoinsSpec).preRow enc Tryd.prog Tryd.f4 Rows.textJoinsRow.domain false Rows.textJoinsRow.laid) (((OpenSpec.ofChange Rows.textJoinsSpec).at F).post enc Tryd.prog Tryd.f4 false true false false) := by
  obtain ⟨places, hx⟩ := reads os enc
  refine returnsInHanded_of_row (C := Tryd.checked) (s := (OpenSpec.ofChange Rows.textJoinsSpec)) own started (by kernel_rfl) Tryd.func4
    (witness_row_at (enc := enc) (C := Tryd.checked) false (laidWorld os) #[.agg #[.string ⟨#[]⟩, .slice none 0 0, .slice none 0 0, .bool false]] rfl (by kernel_rfl) (by kernel_rfl) (by kernel_rfl)
      (OpenSpec.preRow_of_cond 8 hx (by kernel_rfl) (fun k hk => by cases hk) (by kernel_rfl) (laid_met os _))) ?_
  intro W base args ds gs before hval hW _ _ hZ hL _ _
  exact contract H enc W base args ds gs before hval hW hL hZ

theorem said : Rows.TextJoinsSaid :=
  OpenClaim.holds_of_cond 4 Tryd.f4 rfl rfl rfl rfl rfl rfl rfl ⟨rfl, rfl, rfl, rfl, rfl⟩ rfl rfl rfl rfl rfl (by kernel_rfl) Tryd.func4 (by kernel_rfl)
    (of_decide_eq_true (by kernel_rfl)) (by unfold Func.isWrapper; first | (rw [if_pos (by decide +kernel)]; kernel_rfl) | (rw [if_neg (by decide +kernel)]; exact ⟨rfl, rfl⟩))
    (fun os started H enc _ F => by rw [OpenClaim.pre_eq_preRow]; exact lifted os started H enc F)

theorem plain (f : FuncId) (fn : Func) (hf : Tryd.pinned.checked.prog.funcNamed "errata/erratalaw02.TextJoins" = some f) (hfn : Tryd.pinned.checked.prog.funcs[f]? = some fn) :
    false = Tryd.pinned.checked.prog.looks [] ∧ ∀ (j : Nat) t, fn.params[j]? = some t → Tryd.pinned.checked.prog.wantsStandIn t = false := by
  obtain rfl : f = 4 := Option.some.inj ((show Tryd.prog.funcNamed "errata/erratalaw02.TextJoins" = some 4 by kernel_rfl).symm.trans hf) |>.symm
  obtain rfl : fn = Tryd.f4 := (Option.some.inj (Tryd.func4.symm.trans hfn)).symm
  refine ⟨by kernel_rfl, fun j t ht => ?_⟩
  rw [Tryd.params4] at ht
  have hm := Array.mem_of_getElem? ht
  have hall : ∀ t ∈ #[34], Tryd.prog.wantsStandIn t = false := by decide +kernel
  exact hall t hm

theorem card : Rows.TextJoinsCardSaid :=
  Claim7.holds_tied_plain_at .later [] _ _ _ _ said (fun _ h => by cases h) (by kernel_rfl) (fun _ h => by cases h) textJoins_row_tie rfl ⟨rfl, rfl⟩ (by kernel_rfl) rfl plain (by kernel_rfl)
end Go.Proofs.YtephhejfkihhgaaDoor.textJoins
namespace Go.Proofs.YtephhejfkihhgaaDoor
theorem textJoins_card : Rows.TextJoinsCardSaid := textJoins.card
end Go.Proofs.YtephhejfkihhgaaDoor
