/- Texts that several proofs of this seat share, one behind the other: ZLaid. -/
import Derived.Test.YtljaibhhkjapmaaDoorPk12
import Derived.Deep.RegionHeld3
/- builder.laid: the automaton whose first state is a frozen one. -/
namespace Go.Proofs.YtljaibhhkjapmaaDoor
open Go.RowKit Go.Shelf
attribute [local go_sem] Oper.semAt_some
set_option linter.unusedSimpArgs false
set_option linter.unusedVariables false

theorem make_sts (w : World) (c : Nat) (hc : c ≤ 10000000) : ∃ w', (Instr.makeSlice 80 (.int .i64 0) (.int .i64 (c : Int))).run Tryd.prog w = .ok (.slice (some ⟨w.heap.size, 0, none⟩) 0 c) w' ∧
    w'.ownsRow w.heap.size 92 3 (.slice (some ⟨w.heap.size, 0, none⟩) 0 c) 0 [] ∧ w.grownBy w' none := by
  obtain ⟨i0, hi, hz0, hz1, hz2⟩ := info_parts info_st
  exact run_make_own w w.heap.size 80 92 i0 _ 3 Tryd.underlying80 hi hz0 hz1 .i64 .i64 c (by rw [hz2]; omega) (by unfold maxLen; omega) (Nat.le_refl _)
/-- The automaton as it lies. -/
def LaidPost (w : World) (n1 : Nat) (Q : List Rst) (e : Ending) (w' : World) : Prop :=
  ∃ d vs ve, e = .returned (.pointer (some ⟨d, 0, none⟩)) ∧ LdM w w' n1 d (staK Q Q.length) (edK Q Q.length) vs ve
theorem z_own_base {W : World} {b1 b2 size n : Nat} {T : TypeId} {v : Value} {xs : List Value} (h : W.ownsRow b1 T size v n xs) (hb : b2 ≤ b1) : W.ownsRow b2 T size v n xs := by
  obtain ⟨hl, hv⟩ := h
  rcases hv with h0 | ⟨g, cap, cur, e, hg, r⟩
  · exact ⟨hl, .inl h0⟩
  · exact ⟨hl, .inr ⟨g, cap, cur, e, by omega, r⟩⟩
theorem LFr.from_ {d n1 B : Nat} {W W' : World} {cs : Array Value} (h : LFr d n1 W W') (hd : W.heap[d]? = some (.cells cs 83)) (hB : n1 ≤ B) : KeepsFrom B W W' :=
  ⟨h.bel.size, fun k o hk hh hc => h.keep k o (by omega) hh (fun e => by subst e; rw [hd] at hh; cases hh; cases hc) (fun cs t fz e => by subst e; cases hc)⟩
/-- An edge out of a tail. -/
def edT (R : List Rst) (O : List Nat) (t : Tl) : Edg := (t.2.1, O.idxOf t.2.2, (rq R t.1).length)

set_option maxRecDepth 100000 in
set_option maxHeartbeats 16000000 in
theorem laid_any (q N M x n1 : Nat) (F : List Fz) (R : List Rst) (w : World) (hF : FrzAt w q N F) (hz : FzOk M F R) (hM : M ≤ 2000000) (hN : N ≤ 5000000) (hx : x < N) (hn1 : w.heap.size = n1) (hrs : (rq R x).Pairwise (· < ·)) (hlt : ltrs (rq R x) ≤ 5000000) :
    Calls Tryd.prog 73 #[.pointer (some ⟨q, 0, none⟩), .int .i32 (x : Int)] w (LaidPost w n1 (staQ (rq R x))) := by
  have HF := Lib.hid hF; have HZ := Lib.hid hz; have HN1 := Lib.hid hn1
  have hFN := hF.len
  have HFN := Lib.hid hFN
  have hal := bel_one w (.cells #[.pointer (some ⟨q, 0, none⟩)] 134)
  have x2 := Boxed.new w 134 (.pointer (some ⟨q, 0, none⟩))
  rw [hn1] at x2
  have hwas : (w.alloc (.cells #[.pointer (some ⟨q, 0, none⟩)] 134)).heap.size = n1 + 1 := by simp [hn1]
  have cm := met_any q N M x (n1 + 1) F R (w.alloc (.cells #[.pointer (some ⟨q, 0, none⟩)] 134)) (hF.below hal) hz hN hx hwas
  have c2 := x2.cell
  have CM := Lib.hid cm; have HX2 := Lib.hid x2; have HAL := Lib.hid hal
  have hedk := fun k => edK_all (w := rq R x) hrs k
  have HEK := Lib.hid hedk
  clear hF hz cm hFN x2 hal hwas hrs hedk
  refine (callsIn_wide (n := 6)).1 ?_
  refine callsIn_of_wp_marks Tryd.func73 rfl trivial ?_ rfl
  simp only [Tryd.ntmps73, List.size_toArray, List.length_cons, List.length_nil, Nat.reduceAdd, Nat.reduceSub, Array.replicate_succ, Array.replicate_zero, List.push_toArray, List.append_toArray, List.nil_append, List.cons_append]
  gi_wp2_with (fail)
  refine ⟨trivial, ?_⟩
  refine (callsIn_wide.2 CM.out).mono ?_
  rintro e w1 ⟨O, vO, gn, rfl, hQ, hOl, hOn, hord, hnum, hgn, hne, hb1⟩
  obtain ⟨AO, cO, rfl⟩ := z_own_slice hord
  obtain ⟨NO, hNO⟩ : ∃ z, O.length = z := ⟨_, rfl⟩
  have hNN : NO ≤ N := by rw [← hNO]; exact nodup_most hOn hOl
  have hord0 := hord
  rw [hNO] at hord ⊢
  obtain ⟨w2, hmk, hst0, hg0⟩ := make_sts (w1.alloc (.cells #[.slice (some ⟨gn, 0, none⟩) N N] 84)) NO (by omega)
  obtain ⟨b6, hb6⟩ : ∃ z, w1.heap.size = z := ⟨_, rfl⟩
  obtain ⟨d, hd⟩ : ∃ z, w2.heap.size = z := ⟨_, rfl⟩
  obtain ⟨Qs, hQs⟩ : ∃ z, staQ (rq R x) = z := ⟨_, rfl⟩
  have hbA : Below n1 w w1 := by
    have h1 := HAL.out
    rw [hn1] at h1
    exact h1.trans (hb1.mono (by omega))
  have hba := bel_one w1 (.cells #[.slice (some ⟨gn, 0, none⟩) N N] 84)
  have x6 := Boxed.new w1 84 (.slice (some ⟨gn, 0, none⟩) N N)
  have hbb : Below (w1.alloc (.cells #[.slice (some ⟨gn, 0, none⟩) N N] 84)).heap.size (w1.alloc (.cells #[.slice (some ⟨gn, 0, none⟩) N N] 84)) w2 := (Below.refl _ _).grown hg0 (Nat.le_refl _) (fun k e => by cases e)
  have hsz1 : (w1.alloc (.cells #[.slice (some ⟨gn, 0, none⟩) N N] 84)).heap.size = b6 + 1 := by simp [hb6]
  have hc1 : Below w1.heap.size w1 w2 := hba.trans (hbb.mono (by rw [hsz1]; omega))
  have hbc := bel_two w2 (.cells #[.slice (some ⟨b6 + 1, 0, none⟩) 0 NO, .slice none 0 0, .slice none 0 0] 83) (.cells #[.pointer (some ⟨d, 0, none⟩)] 25)
  have hd0 := heap_alloc_new w2 (.cells #[.slice (some ⟨b6 + 1, 0, none⟩) 0 NO, .slice none 0 0, .slice none 0 0] 83)
  have hd1 := Below.heap_alloc (w2.alloc (.cells #[.slice (some ⟨b6 + 1, 0, none⟩) 0 NO, .slice none 0 0, .slice none 0 0] 83)) (.cells #[.pointer (some ⟨d, 0, none⟩)] 25) d (by simp; omega)
  have x7 := Boxed.new (w2.alloc (.cells #[.slice (some ⟨b6 + 1, 0, none⟩) 0 NO, .slice none 0 0, .slice none 0 0] 83)) 25 (.pointer (some ⟨d, 0, none⟩))
  have hw0 : n1 ≤ b6 := by rw [← hb6, ← hn1]; exact hbA.size
  have hw2 : b6 + 1 ≤ d := by rw [← hd, ← hsz1]; exact hbb.size
  rw [hsz1] at hst0 hmk
  rw [hd] at hd0
  rw [World.size_alloc, hd] at x7
  rw [hb6] at x6
  have hx2 : Boxed w1 n1 134 (.pointer (some ⟨q, 0, none⟩)) := (hb1.block n1 (by omega)).trans HX2.out
  have hC1 : LdC w1 n1 q gn N n1 n1 n1 d O (.slice AO NO cO) → True := fun _ => trivial
  obtain ⟨W0, hW0⟩ : ∃ z, (w2.alloc (.cells #[.slice (some ⟨b6 + 1, 0, none⟩) 0 NO, .slice none 0 0, .slice none 0 0] 83)).alloc (.cells #[.pointer (some ⟨d, 0, none⟩)] 25) = z := ⟨_, rfl⟩
  rw [hW0] at hbc hd1 x7
  have hcW : Below w1.heap.size w1 W0 := hc1.trans (hbc.mono (by rw [hb6]; omega))
  have hLC : Hid (LdC W0 n1 q gn N n1 b6 (d + 1) d O (.slice AO NO cO)) := Lib.hid ⟨(hcW.block n1 hx2.lt).trans hx2, (hbc.block b6 (by omega)).trans ((hbb.block b6 (by omega)).trans x6), x7, (hcW.block gn (Array.getElem?_eq_some_iff.1 hnum).1).trans hnum, (by rw [← hNO]; exact z_own_base (z_own_below hord0 hcW) (by omega)), Nat.le_refl _, hw0, by omega, by omega⟩
  have hLM : Hid (LdM w W0 n1 d (staK Qs 0) (edK Qs 0) (.slice (some ⟨b6 + 1, 0, none⟩) 0 NO) (.slice none 0 0)) := Lib.hid ⟨hd1.trans hd0, z_own_base (z_own_below hst0 hbc) (by omega), World.ownsRow_nil _ _ _ _, hbA.trans (hcW.mono (by omega)), by omega⟩
  have HQS := Lib.hid hQs
  have HQ := Lib.hid (hQ.trans hQs); have HOL := Lib.hid hOl; have HON := Lib.hid hOn; have HNO := Lib.hid hNO
  clear hbA hba x6 hbb hc1 hbc hd0 hd1 x7 hst0 hord hord0 hnum hb1 hx2 hC1 hcW hQ hOl hOn hNO hne hg0
  gi_wp2
  try rw [hb6]
  try rw [hd]
  try rw [hW0]
  try rw [hQs]
  clear hmk hW0 c2
  refine wpIn_loop (fun a' w' => ∃ (i : Nat) (vs ve : Value) (Ds : List Nat) (u8 u9 u10 u11 u26 u27 u28 u29 u30 u31 u32 u33 u34 u35 u36 u37 u38 u39 u40 u41 u42 u43 u44 u45 u46 u47 u48 u49 u50 u51 u52 u53 u54 u55 u56 u57 u58 u59 u60 u61 u62 u63 u64 u65 u66 u67 u68 u69 u70 u71 u72 u73 u74 u75 u76 u77 u78 u79 u80 u81 u82 u83 u84 u85 u86 u87 u88 u89 u90 u91 u92 u93 u94 u95 u96 u97 u98 : Value), (i ≤ NO ∧ Hid (LdM w w' n1 d (staK Qs i) (edK Qs i) vs ve) ∧ Hid (LdC w' n1 q gn N n1 b6 (d + 1) d O (.slice AO NO cO)) ∧ Hid (ZMarks n1 w' Ds)) ∧ a' = { tmps := #[.pointer (some ⟨q, 0, none⟩), .int .i32 (x : Int), .pointer (some ⟨n1, 0, none⟩), undef, .pointer none, .slice AO NO cO, .pointer (some ⟨b6, 0, none⟩), .pointer (some ⟨d + 1, 0, none⟩), u8, u9, u10, u11, .tuple #[.slice AO NO cO, .slice (some ⟨gn, 0, none⟩) N N], .pointer (some ⟨q, 0, none⟩), .int .i32 (x : Int), .tuple #[.slice AO NO cO, .slice (some ⟨gn, 0, none⟩) N N], .slice AO NO cO, .slice (some ⟨gn, 0, none⟩) N N, .slice AO NO cO, .int .i64 (NO : Int), .slice (some ⟨b6 + 1, 0, none⟩) 0 NO, .agg #[.slice (some ⟨b6 + 1, 0, none⟩) 0 NO, .slice none 0 0, .slice none 0 0], .pointer (some ⟨d, 0, none⟩), .slice AO NO cO, .int .i64 (NO : Int), .int .i64 (i : Int), u26, u27, u28, u29, u30, u31, u32, u33, u34, u35, u36, u37, u38, u39, u40, u41, u42, u43, u44, u45, u46, u47, u48, u49, u50, u51, u52, u53, u54, u55, u56, u57, u58, u59, u60, u61, u62, u63, u64, u65, u66, u67, u68, u69, u70, u71, u72, u73, u74, u75, u76, u77, u78, u79, u80, u81, u82, u83, u84, u85, u86, u87, u88, u89, u90, u91, u92, u93, u94, u95, u96, u97, u98], defers := Ds.map zkD }) (fun a' _ => NO - (intOf (a'.tmps.getD 25 undef)).toNat) ?_ ?_
  · exact ⟨0, _, _, [], _, _, _, _, _, _, _, _, _, _, _, _, _, _, _, _, _, _, _, _, _, _, _, _, _, _, _, _, _, _, _, _, _, _, _, _, _, _, _, _, _, _, _, _, _, _, _, _, _, _, _, _, _, _, _, _, _, _, _, _, _, _, _, _, _, _, _, _, _, _, _, _, _, _, _, _, _, ⟨Nat.zero_le _, hLM, hLC, Lib.hid ⟨List.nodup_nil, fun D hD => by cases hD⟩⟩, rfl⟩
  clear hLM hLC CM HX2 HAL
  intro a' wr h
  obtain ⟨i, h⟩ := h
  obtain ⟨vs, h⟩ := h
  obtain ⟨ve, h⟩ := h
  obtain ⟨Ds, h⟩ := h
  obtain ⟨u8, h⟩ := h
  obtain ⟨u9, h⟩ := h
  obtain ⟨u10, h⟩ := h
  obtain ⟨u11, h⟩ := h
  obtain ⟨u26, h⟩ := h
  obtain ⟨u27, h⟩ := h
  obtain ⟨u28, h⟩ := h
  obtain ⟨u29, h⟩ := h
  obtain ⟨u30, h⟩ := h
  obtain ⟨u31, h⟩ := h
  obtain ⟨u32, h⟩ := h
  obtain ⟨u33, h⟩ := h
  obtain ⟨u34, h⟩ := h
  obtain ⟨u35, h⟩ := h
  obtain ⟨u36, h⟩ := h
  obtain ⟨u37, h⟩ := h
  obtain ⟨u38, h⟩ := h
  obtain ⟨u39, h⟩ := h
  obtain ⟨u40, h⟩ := h
  obtain ⟨u41, h⟩ := h
  obtain ⟨u42, h⟩ := h
  obtain ⟨u43, h⟩ := h
  obtain ⟨u44, h⟩ := h
  obtain ⟨u45, h⟩ := h
  obtain ⟨u46, h⟩ := h
  obtain ⟨u47, h⟩ := h
  obtain ⟨u48, h⟩ := h
  obtain ⟨u49, h⟩ := h
  obtain ⟨u50, h⟩ := h
  obtain ⟨u51, h⟩ := h
  obtain ⟨u52, h⟩ := h
  obtain ⟨u53, h⟩ := h
  obtain ⟨u54, h⟩ := h
  obtain ⟨u55, h⟩ := h
  obtain ⟨u56, h⟩ := h
  obtain ⟨u57, h⟩ := h
  obtain ⟨u58, h⟩ := h
  obtain ⟨u59, h⟩ := h
  obtain ⟨u60, h⟩ := h
  obtain ⟨u61, h⟩ := h
  obtain ⟨u62, h⟩ := h
  obtain ⟨u63, h⟩ := h
  obtain ⟨u64, h⟩ := h
  obtain ⟨u65, h⟩ := h
  obtain ⟨u66, h⟩ := h
  obtain ⟨u67, h⟩ := h
  obtain ⟨u68, h⟩ := h
  obtain ⟨u69, h⟩ := h
  obtain ⟨u70, h⟩ := h
  obtain ⟨u71, h⟩ := h
  obtain ⟨u72, h⟩ := h
  obtain ⟨u73, h⟩ := h
  obtain ⟨u74, h⟩ := h
  obtain ⟨u75, h⟩ := h
  obtain ⟨u76, h⟩ := h
  obtain ⟨u77, h⟩ := h
  obtain ⟨u78, h⟩ := h
  obtain ⟨u79, h⟩ := h
  obtain ⟨u80, h⟩ := h
  obtain ⟨u81, h⟩ := h
  obtain ⟨u82, h⟩ := h
  obtain ⟨u83, h⟩ := h
  obtain ⟨u84, h⟩ := h
  obtain ⟨u85, h⟩ := h
  obtain ⟨u86, h⟩ := h
  obtain ⟨u87, h⟩ := h
  obtain ⟨u88, h⟩ := h
  obtain ⟨u89, h⟩ := h
  obtain ⟨u90, h⟩ := h
  obtain ⟨u91, h⟩ := h
  obtain ⟨u92, h⟩ := h
  obtain ⟨u93, h⟩ := h
  obtain ⟨u94, h⟩ := h
  obtain ⟨u95, h⟩ := h
  obtain ⟨u96, h⟩ := h
  obtain ⟨u97, h⟩ := h
  obtain ⟨u98, h⟩ := h
  obtain ⟨⟨hiN, HM, HC, HK⟩, he⟩ := h
  subst he
  by_cases hi : i < NO
  · have hord := HC.out.ord
    rw [HNO.out] at hord
    obtain ⟨go, cgo, eo, hgo1, hgo2, hgo3, hgo4, _⟩ := z_own_form hord (by omega)
    simp only [Value.slice.injEq] at eo
    obtain ⟨rfl, _, rfl⟩ := eo
    obtain ⟨n, hn⟩ : ∃ n, O[i]? = some n := ⟨_, List.getElem?_eq_getElem (by rw [HNO.out]; exact hi)⟩
    have en := z_own_at nm_ln hord (i := 0) hn (u := .int .i32 (n : Int)) rfl
    simp only [Nat.mul_one, Nat.add_zero] at en
    have hnO : n ∈ O := List.mem_of_getElem? hn
    have hnN : n < N := HOL.out n hnO
    have hQi : Qs[i]? = some (rq R n) := by rw [← HQ.out, List.getElem?_map, hn]; rfl
    obtain ⟨LE, hLE⟩ : ∃ z, (edK Qs i).length = z := ⟨_, rfl⟩
    obtain ⟨Ae, ce, ev⟩ := z_own_slice HM.out.ed
    rw [hLE] at ev
    subst ev
    have i1 : (i : Int) < (NO : Int) := by omega
    have c7 := HC.out.x7.cell
    have c2 := HC.out.x2.cell
    have d1 := HM.out.cells.2.1
    have hb2 := bel_two wr (.cells #[.pointer (some ⟨q, 0, none⟩)] 134) (.cells #[.int .i32 (n : Int)] 21)
    have bx1 : Boxed ((wr.alloc (.cells #[.pointer (some ⟨q, 0, none⟩)] 134)).alloc (.cells #[.int .i32 (n : Int)] 21)) wr.heap.size 134 (.pointer (some ⟨q, 0, none⟩)) := (Boxed.new wr _ _).alloc _
    have bx2 : Boxed ((wr.alloc (.cells #[.pointer (some ⟨q, 0, none⟩)] 134)).alloc (.cells #[.int .i32 (n : Int)] 21)) (wr.heap.size + 1) 21 (.int .i32 (n : Int)) := by
      have := Boxed.new (wr.alloc (.cells #[.pointer (some ⟨q, 0, none⟩)] 134)) 21 (.int .i32 (n : Int))
      rwa [World.size_alloc] at this
    have hsb : ((wr.alloc (.cells #[.pointer (some ⟨q, 0, none⟩)] 134)).alloc (.cells #[.int .i32 (n : Int)] 21)).heap.size = wr.heap.size + 2 := by simp
    gi_wp2_with (refine ⟨trivial, ?_⟩; gi_at_call 101; refine (callsIn_wide.2 (tails_any q n _)).mono ?_; rintro e w' ⟨rfl, rfl⟩)
    obtain ⟨wb, hwb⟩ : ∃ z, (wr.alloc (.cells #[.pointer (some ⟨q, 0, none⟩)] 134)).alloc (.cells #[.int .i32 (n : Int)] 21) = z := ⟨_, rfl⟩
    obtain ⟨bB, hbB⟩ : ∃ z, wr.heap.size = z := ⟨_, rfl⟩
    have hM2 := HM.out.below hb2
    have hC2 := HC.out.below hb2
    have hK2 := HK.out.below hb2
    have hlt1 := own_lt' HM.out.st
    have hlt2 := own_lt' HM.out.ed
    have hap := HM.out.ap
    have hlo := own_lt' HC.out.ord
    have hgn1 := (Array.getElem?_eq_some_iff.1 HC.out.num).1
    have h2l := HC.out.x2.lt
    have h6l := HC.out.x6.lt
    have h7l := HC.out.x7.lt
    rw [hwb] at hb2 bx1 bx2 hsb hM2 hC2 hK2
    rw [hbB] at bx1 bx2 hsb hap hlt1 hlt2 hlo hgn1 h2l h6l h7l
    rw [hwb, hbB]
    have HL0 : Hid (LdL w wb n1 q gn N n1 b6 (d + 1) d bB O (.slice (some ⟨go, 0, none⟩) NO cO) (staK Qs i) (edK Qs i ++ ([] : List Tl).map (edT R O)) Ds) := Lib.hid ⟨⟨_, _, by simpa using hM2, ⟨fun e => by have := hlt1 _ e; omega, fun e => by have := hlt1 _ e; omega⟩, ⟨fun e => by have := hlt2 _ e; omega, fun e => by have := hlt2 _ e; omega⟩⟩, hC2, hK2, fun D hD => by rw [← hbB]; exact (Array.getElem?_eq_some_iff.1 (HK.out.at_ D hD).2).1, hgn1, h2l, h6l, h7l, hap.2.2.2.2.1, hlo, hap.2.2.2.2.2, by omega⟩
    have HBEL := Lib.hid hM2.bel
    have HN2 : Hid (n1 ≤ bB) := Lib.hid hap.2.2.2.2.2
    have HLB : Hid (LE ≤ 5000001) := Lib.hid (by rw [← hLE]; have := HEK.out i; rw [HQS.out] at this; omega)
    have QSR : Qs = staQ (rq R x) := HQS.out.symm
    have HQI := Lib.hid hQi; have HNI := Lib.hid hn; have HLE := Lib.hid hLE; have HNN := Lib.hid hnO
    have HB1 := Lib.hid bx1; have HB2 := Lib.hid bx2; have HSB := Lib.hid hsb
    clear hwb hbB hM2 hC2 hK2 hlt1 hlt2 hap hlo hgn1 h2l h6l h7l hb2 bx1 bx2 hsb c7 c2 d1 en hQi hn hLE hnO hord HM HC HK
    have hwb1 : bB + 2 = wb.heap.size := HSB.out.symm
    refine wp_range_seqBx (by decide) (gf := 117) (lb := #[.pointer (some ⟨bB + 1, 0, none⟩), .pointer (some ⟨bB, 0, none⟩)]) rfl (enters_of Tryd.func117 (by kernel_rfl) rfl)
      (tails_seq 5 (by decide) (bB + 1) bB n1 q N M F R HZ.out hN w HN1.out HF.out n hnN wb (by have := HN2.out; omega) HBEL.out (by have := HN2.out; omega) HN2.out (by omega) HB2.out HB1.out)
      (fun r e => by cases e; omega) KeepT.trans (keepT_b (by have := HN2.out; omega) (by omega) (by omega)) (fun W o hW => KeepT.of_below (bel_one W o) (by have := HN2.out; omega) (by omega) (by omega)) (Below.refl _ _) (fun _ => rfl)
      (fun (pre : List Tl) W => LdL w W n1 q gn N n1 b6 (d + 1) d bB O (.slice (some ⟨go, 0, none⟩) NO cO) (staK Qs i) (edK Qs i ++ pre.map (edT R O)) Ds)
      (LdL.own w n1 q gn N n1 b6 (d + 1) d bB _ O _ _ _ Ds (by omega)) (fun pre W1 W2 h _ hg => h.row hg) HL0.out
      (fun t k => { tmps := #[.pointer (some ⟨q, 0, none⟩), .int .i32 (x : Int), .pointer (some ⟨n1, 0, none⟩), undef, .pointer none, .slice (some ⟨go, 0, none⟩) NO cO, .pointer (some ⟨b6, 0, none⟩), .pointer (some ⟨d + 1, 0, none⟩), u8, .int .i32 (n : Int), .int .i64 (LE : Int), .pointer (some ⟨k, 0, none⟩), .tuple #[.slice (some ⟨go, 0, none⟩) NO cO, .slice (some ⟨gn, 0, none⟩) N N], .pointer (some ⟨q, 0, none⟩), .int .i32 (x : Int), .tuple #[.slice (some ⟨go, 0, none⟩) NO cO, .slice (some ⟨gn, 0, none⟩) N N], .slice (some ⟨go, 0, none⟩) NO cO, .slice (some ⟨gn, 0, none⟩) N N, .slice (some ⟨go, 0, none⟩) NO cO, .int .i64 (NO : Int), .slice (some ⟨b6 + 1, 0, none⟩) 0 NO, .agg #[.slice (some ⟨b6 + 1, 0, none⟩) 0 NO, .slice none 0 0, .slice none 0 0], .pointer (some ⟨d, 0, none⟩), .slice (some ⟨go, 0, none⟩) NO cO, .int .i64 (NO : Int), .int .i64 (i : Int), .bool true, .pointer (some ⟨go, i, none⟩), .int .i32 (n : Int), .pointer (some ⟨d, 0, none⟩), .pointer (some ⟨d, 0, none⟩), .pointer (some ⟨d, 1, none⟩), .slice Ae LE ce, .int .i64 (LE : Int), .pointer (some ⟨q, 0, none⟩), .int .i32 (n : Int), .func (.func 117) #[] #[.pointer (some ⟨bB + 1, 0, none⟩), .pointer (some ⟨bB, 0, none⟩)], .agg #[.int .i32 (t.1 : Int), .int .i32 t.2.1, .int .i32 (t.2.2 : Int)], u38, u39, u40, u41, u42, u43, u44, u45, u46, u47, u48, u49, u50, u51, u52, u53, u54, u55, u56, u57, u58, u59, u60, u61, u62, u63, u64, u65, u66, u67, u68, u69, u70, u71, u72, u73, u74, u75, u76, u77, u78, u79, u80, u81, u82, u83, u84, u85, u86, u87, u88, u89, u90, u91, u92, u93, u94, u95, u96, u97, u98], defers := [] })
      (fun t => .cells #[.int .i32 (t.1 : Int), .int .i32 t.2.1, .int .i32 (t.2.2 : Int)] 139) ?assign ?body ?done
    case assign =>
      intro l t W K hK
      simp only [tlEnc]
      gi_wp2
      exact hK
    case body =>
      intro l pre t W k hk hI hkm hpx
      obtain ⟨vs1, ve1, h1, h2, h3⟩ := hI.mm
      obtain ⟨b, r, to_⟩ := t
      have htm : (b, r, to_) ∈ tls F n := hpx.subset (by simp)
      obtain ⟨hb1, hto0, hto1⟩ := (tls_spec HZ.out n (by rw [HFN.out]; exact hnN)).2 _ htm
      have htO := (tls_edges HZ.out (fun m hm => by rw [HFN.out]; exact HOL.out m hm) (HQ.out.trans QSR) HNN.out).2 _ htm
      simp only at hb1 hto0 hto1 htO
      obtain ⟨ix, hix⟩ : ∃ z, O.idxOf to_ = z := ⟨_, rfl⟩
      obtain ⟨fb, hfb⟩ : ∃ f, F[b]? = some f := ⟨_, List.getElem?_eq_getElem (by rw [HFN.out]; omega)⟩
      obtain ⟨wd, hwd⟩ : ∃ z, (rq R b).length = z := ⟨_, rfl⟩
      have hcn := (HZ.out.cnt b fb hfb).1
      rw [hwd] at hcn
      have hpl : pre.length < n + 1 := by
        obtain ⟨z, hz⟩ := hpx
        have e := congrArg List.length hz
        have := tls_len F n
        simp at e
        omega
      obtain ⟨l2, hl2⟩ : ∃ z, (edK Qs i ++ pre.map (edT R O)).length = z := ⟨_, rfl⟩
      have hl2b : l2 ≤ 20000000 := by
        rw [← hl2, List.length_append, List.length_map, HLE.out]
        have := HLB.out
        omega
      obtain ⟨A1, c1', e1⟩ := z_own_slice h1.ed
      rw [hl2] at e1
      subst e1
      have hedo := h1.ed
      unfold EdOwn at hedo
      rw [hl2] at hedo
      obtain ⟨v9, w9, hrun, hown9, hgr9, hblk9⟩ := append_one (P := Tryd.prog) ed_ln ed_one info_ed rfl (by decide) (by decide) Tryd.underlying81 W.drew n1 _ l2 _ hedo (edT R O (b, r, to_)) h1.ap.2.2.2.2.2 (by omega)
      obtain ⟨p1, p2, p3⟩ := (show LdM w W.drew n1 d (staK Qs i) (edK Qs i ++ pre.map (edT R O)) vs1 (.slice A1 l2 c1') from h1.below (Below.refl _ _).drew).pushEd (v' := v9) (eds2 := edK Qs i ++ (pre ++ [(b, r, to_)]).map (edT R O)) _ hgr9 (by
        unfold EdOwn
        rw [List.map_append, ← List.append_assoc, List.length_append, hl2]
        show w9.ownsRow n1 _ 3 v9 (l2 + 1) (gCells edCell (edK Qs i ++ pre.map (edT R O) ++ [edT R O (b, r, to_)]))
        rw [gCells_snoc]
        exact hown9)
      have p2' : LFr d n1 W (w9.setCell ⟨d, 1, none⟩ v9) := (LFr.of_below (Below.refl _ _).drew h1.ap.2.2.2.2.2).trans p2
      have hblkk : ∀ z, z < W.heap.size → z ≠ d → A1.map (·.block) ≠ some z → w9.heap[z]? = W.heap[z]? := fun z hz hzd hza => (hgr9.block z (by simp; exact Nat.lt_succ_of_lt hz) (fun e => hza (by cases A1 <;> simp [Value.ownBlock] at e ⊢; exact e.symm))).trans (Below.heap_alloc _ _ _ hz)
      have hf9 : LFr d n1 W w9 := ((LFr.of_below (Below.refl _ _).drew h1.ap.2.2.2.2.2).trans (LFr.of_below (bel_one W.drew _) h1.ap.2.2.2.2.2)).trans (LFr.of_row (base := n1) hgr9 (by simp; have := h1.ap.2.2.2.2.2; exact Nat.le_succ_of_le this) (hedo.alloc _) (.inr rfl))
      have hC9 := hI.cc.fr hf9 h1.box
      have hkW : n1 ≤ k ∧ k ≠ d := by have := hI.nl; have := hI.ld; omega
      have hk9 := hf9.keep k _ hkW.1 hkm hkW.2 (fun cs t' fz e => by
        simp only [Obj.cells.injEq] at e
        obtain ⟨_, e, _⟩ := e
        rw [← e]
        exact ⟨by decide, by decide⟩)
      obtain ⟨hq1, _, gF, cF, f1, hgF, hNcF, hcFm, hfz⟩ := HF.out
      obtain ⟨_, _, _, f2, _⟩ := hfz b fb hfb
      rw [hcn] at f2
      have hw1n : w.heap.size = n1 := HN1.out
      have bq : i ≤ NO := hiN
      have hbN : (b : Int) < (N : Int) := by omega
      have htN : (to_ : Int) < (N : Int) := by omega
      have numv : (numC N O).toArray[to_]? = some (.int .i32 (ix : Int)) := by
        rw [List.getElem?_toArray, numC_at O (by omega), if_pos htO, hix]
      have c0 := hI.cc.x7.cell
      have c1 : W.cell? ⟨k, 0, none⟩ = some (.int .i32 (b : Int)) := by rw [cell_of_row _ _ _ _ _ (0, 0) hkm]; rfl
      have c2 : W.cell? ⟨k, 1, none⟩ = some (.int .i32 r) := by rw [cell_of_row _ _ _ _ _ (0, 0) hkm]; rfl
      have c3 : W.cell? ⟨k, 2, none⟩ = some (.int .i32 (to_ : Int)) := by rw [cell_of_row _ _ _ _ _ (0, 0) hkm]; rfl
      have c4 := hI.cc.x6.cell
      have c5 : W.cell? ⟨gn, to_, none⟩ = some (.int .i32 (ix : Int)) := by rw [cell_of_row _ _ _ _ _ (0, 0) hI.cc.num]; exact numv
      have c6 := hI.cc.x2.cell
      have c7 := (h1.bel.cell (p := ⟨q, 1, none⟩) (show q < n1 by omega)).trans f1
      have c8 := (h1.bel.cell (p := ⟨gF, b * 5 + 3, none⟩) (show gF < n1 by omega)).trans f2
      have m0 := hC9.x7.cell
      have m1 : w9.cell? ⟨k, 0, none⟩ = some (.int .i32 (b : Int)) := by rw [cell_of_row _ _ _ _ _ (0, 0) hk9]; rfl
      have m2 : w9.cell? ⟨k, 1, none⟩ = some (.int .i32 r) := by rw [cell_of_row _ _ _ _ _ (0, 0) hk9]; rfl
      have m3 : w9.cell? ⟨k, 2, none⟩ = some (.int .i32 (to_ : Int)) := by rw [cell_of_row _ _ _ _ _ (0, 0) hk9]; rfl
      have m4 := hC9.x6.cell
      have m5 : w9.cell? ⟨gn, to_, none⟩ = some (.int .i32 (ix : Int)) := by rw [cell_of_row _ _ _ _ _ (0, 0) hC9.num]; exact numv
      have m6 := hC9.x2.cell
      have m7 := (hf9.bel.cell (p := ⟨q, 1, none⟩) (show q < n1 by omega)).trans c7
      have m8 := (hf9.bel.cell (p := ⟨gF, b * 5 + 3, none⟩) (show gF < n1 by omega)).trans c8
      have hdn := h1.d0
      have n0 : d + 1 ≠ d := by omega
      have n1' : k ≠ d := hkW.2
      have n4 : b6 ≠ d := by omega
      have n5 : gn ≠ d := fun e => by
        have := hI.cc.num
        rw [e, h1.box] at this
        simp only [Option.some.injEq, Obj.cells.injEq] at this
        exact absurd this.2.1 (by decide)
      have n6 : n1 ≠ d := by omega
      have n7 : q ≠ d := by omega
      have n8 : gF ≠ d := by omega
      have hAe : (Value.slice A1 l2 c1').ownBlock = A1.map (·.block) := by cases A1 <;> rfl
      rw [hAe] at h3 hblk9
      have hgs9 := z_grown_set w9 d 1 v9
      have hszW := hI.sz
      have hsz9 : W.heap.size ≤ w9.heap.size := hf9.bel.size
      have bk1 : (w9.setCell ⟨d, 1, none⟩ v9).heap[bB + 1]? = W.heap[bB + 1]? := (hgs9.block (bB + 1) (by omega) (fun e => by have := Option.some.inj e; have := hI.ld; omega)).trans (hblkk _ (by omega) (by have := hI.ld; omega) h3.1)
      have bk2 : (w9.setCell ⟨d, 1, none⟩ v9).heap[bB]? = W.heap[bB]? := (hgs9.block bB (by omega) (fun e => by have := Option.some.inj e; have := hI.ld; omega)).trans (hblkk _ (by omega) (by have := hI.ld; omega) h3.2)
      have hne9 : v9.ownBlock ≠ some (bB + 1) ∧ v9.ownBlock ≠ some bB := by
        rcases hblk9 with e | e
        · rw [e]; exact h3
        · rw [e]; exact ⟨fun e2 => by have := Option.some.inj e2; change W.heap.size + 1 = _ at this; omega, fun e2 => by have := Option.some.inj e2; change W.heap.size + 1 = _ at this; omega⟩
      have hstep := hI.step h1.box p1 p2' h2 hne9
      obtain ⟨A9, c9, e9⟩ := z_own_slice hown9
      subst e9
      have d1 := h1.cells.2.1
      have d1a : (W.drew.alloc (.cells #[.int .i32 r, .int .i32 (ix : Int), .int .i32 (wd : Int)] 95)).cell? ⟨d, 1, none⟩ = some (.slice A1 l2 c1') := cell_keep (bel_one _ _) d1
      have d1b : (W.alloc (.cells #[.int .i32 r, .int .i32 (ix : Int), .int .i32 (wd : Int)] 95)).drew.cell? ⟨d, 1, none⟩ = some (.slice A1 l2 c1') := cell_keep (bel_one _ _).drew d1
      have g1 : w9.cell? ⟨d, 1, none⟩ = some (.slice A1 l2 c1') := by rw [cell_of_row _ _ _ _ _ (0, 0) p3]; rfl
      have g2 : w9.frozen? ⟨d, 1, none⟩ = false := by simp [World.frozen?, p3]
      have hedt : edT R O (b, r, to_) = (r, ix, wd) := by unfold edT; rw [hix, hwd]
      rw [hedt] at hrun
      have HRUN := Lib.hid hrun
      have HFIN : Hid (seqPost wb.heap.size (KeepT n1 (bB + 1) bB) (fun (pre : List Tl) W => LdL w W n1 q gn N n1 b6 (d + 1) d bB O (.slice (some ⟨go, 0, none⟩) NO cO) (staK Qs i) (edK Qs i ++ pre.map (edT R O)) Ds) (pre ++ [(b, r, to_)]) W .normal { tmps := #[], defers := [] } (w9.setCell ⟨d, 1, none⟩ (.slice A9 (l2 + 1) c9))) := Lib.hid ⟨p2'.from_ h1.box (by have := HN2.out; omega), p2'.keepT h1.box bk1 bk2, hstep⟩
      clear hf9 hC9 hk9 hfz f1 f2 numv hdn hAe hgs9 hszW hsz9 bk1 bk2 hne9 hstep hrun hown9 hgr9 hblk9 p1 p2 p2' p3 hblkk hedo h1 h2 h3 hI hkm hpx htm htO hix hfb hwd hcn hpl hl2 hedt hkW
      gi_wp2
      refine z_region_round (S := fun wx => wx.cell? ⟨d + 1, 0, none⟩ = some (.pointer (some ⟨d, 0, none⟩)) ∧ wx.cell? ⟨k, 0, none⟩ = some (.int .i32 (b : Int)) ∧ wx.cell? ⟨k, 1, none⟩ = some (.int .i32 r) ∧ wx.cell? ⟨k, 2, none⟩ = some (.int .i32 (to_ : Int)) ∧ wx.cell? ⟨b6, 0, none⟩ = some (.slice (some ⟨gn, 0, none⟩) N N) ∧ wx.cell? ⟨gn, to_, none⟩ = some (.int .i32 (ix : Int)) ∧ wx.cell? ⟨n1, 0, none⟩ = some (.pointer (some ⟨q, 0, none⟩)) ∧ wx.cell? ⟨q, 1, none⟩ = some (.slice (some ⟨gF, 0, none⟩) N cF) ∧ wx.cell? ⟨gF, b * 5 + 3, none⟩ = some (.int .i32 (wd : Int))) (by kernel_rfl) (by kernel_rfl) (by rintro ⟨a, w, h⟩; exact h) ⟨c0, c1, c2, c3, c4, c5, c6, c7, c8⟩ (fun hS => ?_)
      change wpAnyH _ _ _ _ _ 27 _ _ _
      refine wpAnyH_take (i := 0) (v := .pointer (some ⟨d, 0, none⟩)) rfl (by kernel_rfl) (by kernel_rfl) (by kernel_rfl) (fun _ _ _ h => h) (Or.inl ⟨by rfl, fun wy hy => by obtain ⟨y0, y1, y2, y3, y4, y5, y6, y7, y8⟩ := hy; go_simp⟩) hS ?_
      refine wpAnyH_take (i := 1) (v := .pointer (some ⟨d, 0, none⟩)) rfl (by kernel_rfl) (by kernel_rfl) (by kernel_rfl) (fun _ _ _ h => h) (Or.inl ⟨by rfl, fun wy hy => by obtain ⟨y0, y1, y2, y3, y4, y5, y6, y7, y8⟩ := hy; go_simp⟩) hS ?_
      refine wpAnyH_take (i := 2) (v := .pointer (some ⟨d, 0, none⟩)) rfl (by kernel_rfl) (by kernel_rfl) (by kernel_rfl) (fun _ _ _ h => h) (Or.inl ⟨by rfl, fun wy hy => by obtain ⟨y0, y1, y2, y3, y4, y5, y6, y7, y8⟩ := hy; go_simp⟩) hS ?_
      refine wpAnyH_take (i := 3) (v := .pointer (some ⟨d, 1, none⟩)) rfl (by kernel_rfl) (by kernel_rfl) (by kernel_rfl) (fun _ _ _ h => h) (Or.inl ⟨by rfl, fun wy hy => by obtain ⟨y0, y1, y2, y3, y4, y5, y6, y7, y8⟩ := hy; go_simp⟩) hS ?_
      refine wpAnyH_take (i := 5) (v := .pointer (some ⟨k, 1, none⟩)) rfl (by kernel_rfl) (by kernel_rfl) (by kernel_rfl) (fun _ _ _ h => h) (Or.inl ⟨by rfl, fun wy hy => by obtain ⟨y0, y1, y2, y3, y4, y5, y6, y7, y8⟩ := hy; go_simp⟩) hS ?_
      refine wpAnyH_take (i := 6) (v := .int .i32 r) rfl (by kernel_rfl) (by kernel_rfl) (by kernel_rfl) (fun _ _ _ h => h) (Or.inl ⟨by rfl, fun wy hy => by obtain ⟨y0, y1, y2, y3, y4, y5, y6, y7, y8⟩ := hy; go_simp⟩) hS ?_
      refine wpAnyH_take (i := 7) (v := .slice (some ⟨gn, 0, none⟩) N N) rfl (by kernel_rfl) (by kernel_rfl) (by kernel_rfl) (fun _ _ _ h => h) (Or.inl ⟨by rfl, fun wy hy => by obtain ⟨y0, y1, y2, y3, y4, y5, y6, y7, y8⟩ := hy; go_simp⟩) hS ?_
      refine wpAnyH_take (i := 8) (v := .pointer (some ⟨k, 2, none⟩)) rfl (by kernel_rfl) (by kernel_rfl) (by kernel_rfl) (fun _ _ _ h => h) (Or.inl ⟨by rfl, fun wy hy => by obtain ⟨y0, y1, y2, y3, y4, y5, y6, y7, y8⟩ := hy; go_simp⟩) hS ?_
      refine wpAnyH_take (i := 9) (v := .int .i32 (to_ : Int)) rfl (by kernel_rfl) (by kernel_rfl) (by kernel_rfl) (fun _ _ _ h => h) (Or.inl ⟨by rfl, fun wy hy => by obtain ⟨y0, y1, y2, y3, y4, y5, y6, y7, y8⟩ := hy; go_simp⟩) hS ?_
      refine wpAnyH_take (i := 10) (v := .pointer (some ⟨gn, to_, none⟩)) rfl (by kernel_rfl) (by kernel_rfl) (by kernel_rfl) (fun _ _ _ h => h) (Or.inl ⟨by rfl, fun wy hy => by obtain ⟨y0, y1, y2, y3, y4, y5, y6, y7, y8⟩ := hy; go_simp⟩) hS ?_
      refine wpAnyH_take (i := 11) (v := .int .i32 (ix : Int)) rfl (by kernel_rfl) (by kernel_rfl) (by kernel_rfl) (fun _ _ _ h => h) (Or.inl ⟨by rfl, fun wy hy => by obtain ⟨y0, y1, y2, y3, y4, y5, y6, y7, y8⟩ := hy; go_simp⟩) hS ?_
      refine wpAnyH_take (i := 12) (v := .pointer (some ⟨q, 0, none⟩)) rfl (by kernel_rfl) (by kernel_rfl) (by kernel_rfl) (fun _ _ _ h => h) (Or.inl ⟨by rfl, fun wy hy => by obtain ⟨y0, y1, y2, y3, y4, y5, y6, y7, y8⟩ := hy; go_simp⟩) hS ?_
      refine wpAnyH_take (i := 13) (v := .pointer (some ⟨q, 0, none⟩)) rfl (by kernel_rfl) (by kernel_rfl) (by kernel_rfl) (fun _ _ _ h => h) (Or.inl ⟨by rfl, fun wy hy => by obtain ⟨y0, y1, y2, y3, y4, y5, y6, y7, y8⟩ := hy; go_simp⟩) hS ?_
      refine wpAnyH_take (i := 14) (v := .pointer (some ⟨q, 1, none⟩)) rfl (by kernel_rfl) (by kernel_rfl) (by kernel_rfl) (fun _ _ _ h => h) (Or.inl ⟨by rfl, fun wy hy => by obtain ⟨y0, y1, y2, y3, y4, y5, y6, y7, y8⟩ := hy; go_simp⟩) hS ?_
      refine wpAnyH_take (i := 15) (v := .slice (some ⟨gF, 0, none⟩) N cF) rfl (by kernel_rfl) (by kernel_rfl) (by kernel_rfl) (fun _ _ _ h => h) (Or.inl ⟨by rfl, fun wy hy => by obtain ⟨y0, y1, y2, y3, y4, y5, y6, y7, y8⟩ := hy; go_simp⟩) hS ?_
      refine wpAnyH_take (i := 16) (v := .pointer (some ⟨k, 0, none⟩)) rfl (by kernel_rfl) (by kernel_rfl) (by kernel_rfl) (fun _ _ _ h => h) (Or.inl ⟨by rfl, fun wy hy => by obtain ⟨y0, y1, y2, y3, y4, y5, y6, y7, y8⟩ := hy; go_simp⟩) hS ?_
      refine wpAnyH_take (i := 17) (v := .int .i32 (b : Int)) rfl (by kernel_rfl) (by kernel_rfl) (by kernel_rfl) (fun _ _ _ h => h) (Or.inl ⟨by rfl, fun wy hy => by obtain ⟨y0, y1, y2, y3, y4, y5, y6, y7, y8⟩ := hy; go_simp⟩) hS ?_
      refine wpAnyH_take (i := 18) (v := .pointer (some ⟨gF, b * 5, none⟩)) rfl (by kernel_rfl) (by kernel_rfl) (by kernel_rfl) (fun _ _ _ h => h) (Or.inl ⟨by rfl, fun wy hy => by obtain ⟨y0, y1, y2, y3, y4, y5, y6, y7, y8⟩ := hy; go_simp⟩) hS ?_
      refine wpAnyH_take (i := 19) (v := .pointer (some ⟨gF, b * 5 + 3, none⟩)) rfl (by kernel_rfl) (by kernel_rfl) (by kernel_rfl) (fun _ _ _ h => h) (Or.inl ⟨by rfl, fun wy hy => by obtain ⟨y0, y1, y2, y3, y4, y5, y6, y7, y8⟩ := hy; go_simp⟩) hS ?_
      refine wpAnyH_take (i := 20) (v := .int .i32 (wd : Int)) rfl (by kernel_rfl) (by kernel_rfl) (by kernel_rfl) (fun _ _ _ h => h) (Or.inl ⟨by rfl, fun wy hy => by obtain ⟨y0, y1, y2, y3, y4, y5, y6, y7, y8⟩ := hy; go_simp⟩) hS ?_
      refine wpAnyH_take (i := 21) (v := .agg #[.int .i32 r, .int .i32 (ix : Int), .int .i32 (wd : Int)]) rfl (by kernel_rfl) (by kernel_rfl) (by kernel_rfl) (fun _ _ _ h => h) (Or.inl ⟨by rfl, fun wy hy => by obtain ⟨y0, y1, y2, y3, y4, y5, y6, y7, y8⟩ := hy; go_simp⟩) hS ?_
      refine wpAnyH_ready (rs := [4, 22]) (by kernel_rfl) (by simp) ?_
      refine AllReadyH.cons rfl (fun K hK => ?_) (AllReadyH.cons rfl (fun K hK => ?_) AllReadyH.nil)
      · go_simp
        refine hK.out _ _ hS (fun hS => ?_)
        refine wpAnyH_ready (rs := [22]) (by kernel_rfl) (by simp) ?_
        refine AllReadyH.cons rfl (fun K hK => ?_) AllReadyH.nil
        go_simp
        refine hK.out _ _ ⟨cell_keep (bel_one _ _) hS.1, cell_keep (bel_one _ _) hS.2.1, cell_keep (bel_one _ _) hS.2.2.1, cell_keep (bel_one _ _) hS.2.2.2.1, cell_keep (bel_one _ _) hS.2.2.2.2.1, cell_keep (bel_one _ _) hS.2.2.2.2.2.1, cell_keep (bel_one _ _) hS.2.2.2.2.2.2.1, cell_keep (bel_one _ _) hS.2.2.2.2.2.2.2.1, cell_keep (bel_one _ _) hS.2.2.2.2.2.2.2.2⟩ (fun hS => ?_)
        refine wpAnyH_ready (rs := [23]) (by kernel_rfl) (by simp) ?_
        refine AllReadyH.cons rfl (fun K hK => ?_) AllReadyH.nil
        refine xstep_append ?_ (.tmp 42) (.tmp 60) 81 _ _ _ _ ?_ HRUN.out ?_ ?_ ?_
        · rfl
        · rfl
        · go_simp
        · go_simp
        refine hK.out _ _ ⟨m0, m1, m2, m3, m4, m5, m6, m7, m8⟩ (fun hS => ?_)
        refine wpAnyH_take (i := 24) (v := .pointer (some ⟨d, 0, none⟩)) rfl (by kernel_rfl) (by kernel_rfl) (by kernel_rfl) (fun _ _ _ h => h) (Or.inl ⟨by rfl, fun wy hy => by obtain ⟨y0, y1, y2, y3, y4, y5, y6, y7, y8⟩ := hy; go_simp⟩) hS ?_
        refine wpAnyH_take (i := 25) (v := .pointer (some ⟨d, 1, none⟩)) rfl (by kernel_rfl) (by kernel_rfl) (by kernel_rfl) (fun _ _ _ h => h) (Or.inl ⟨by rfl, fun wy hy => by obtain ⟨y0, y1, y2, y3, y4, y5, y6, y7, y8⟩ := hy; go_simp⟩) hS ?_
        refine wpAnyH_ready (rs := [26]) (by kernel_rfl) (by simp) ?_
        refine AllReadyH.cons rfl (fun K hK => ?_) AllReadyH.nil
        go_simp
        refine hK.out _ _ ⟨(z_cell_set_ne _ _ _ _ _ _ n0).trans m0, (z_cell_set_ne _ _ _ _ _ _ n1').trans m1, (z_cell_set_ne _ _ _ _ _ _ n1').trans m2, (z_cell_set_ne _ _ _ _ _ _ n1').trans m3, (z_cell_set_ne _ _ _ _ _ _ n4).trans m4, (z_cell_set_ne _ _ _ _ _ _ n5).trans m5, (z_cell_set_ne _ _ _ _ _ _ n6).trans m6, (z_cell_set_ne _ _ _ _ _ _ n7).trans m7, (z_cell_set_ne _ _ _ _ _ _ n8).trans m8⟩ (fun hS => ?_)
        refine wpAnyH_done (by kernel_rfl) ?_ _
        exact HFIN.out
      · go_simp
        refine hK.out _ _ ⟨cell_keep (bel_one _ _) hS.1, cell_keep (bel_one _ _) hS.2.1, cell_keep (bel_one _ _) hS.2.2.1, cell_keep (bel_one _ _) hS.2.2.2.1, cell_keep (bel_one _ _) hS.2.2.2.2.1, cell_keep (bel_one _ _) hS.2.2.2.2.2.1, cell_keep (bel_one _ _) hS.2.2.2.2.2.2.1, cell_keep (bel_one _ _) hS.2.2.2.2.2.2.2.1, cell_keep (bel_one _ _) hS.2.2.2.2.2.2.2.2⟩ (fun hS => ?_)
        refine wpAnyH_ready (rs := [4]) (by kernel_rfl) (by simp) ?_
        refine AllReadyH.cons rfl (fun K hK => ?_) AllReadyH.nil
        go_simp
        refine hK.out _ _ hS (fun hS => ?_)
        refine wpAnyH_ready (rs := [23]) (by kernel_rfl) (by simp) ?_
        refine AllReadyH.cons rfl (fun K hK => ?_) AllReadyH.nil
        refine xstep_append ?_ (.tmp 42) (.tmp 60) 81 _ _ _ _ ?_ HRUN.out ?_ ?_ ?_
        · rfl
        · rfl
        · go_simp
        · go_simp
        refine hK.out _ _ ⟨m0, m1, m2, m3, m4, m5, m6, m7, m8⟩ (fun hS => ?_)
        refine wpAnyH_take (i := 24) (v := .pointer (some ⟨d, 0, none⟩)) rfl (by kernel_rfl) (by kernel_rfl) (by kernel_rfl) (fun _ _ _ h => h) (Or.inl ⟨by rfl, fun wy hy => by obtain ⟨y0, y1, y2, y3, y4, y5, y6, y7, y8⟩ := hy; go_simp⟩) hS ?_
        refine wpAnyH_take (i := 25) (v := .pointer (some ⟨d, 1, none⟩)) rfl (by kernel_rfl) (by kernel_rfl) (by kernel_rfl) (fun _ _ _ h => h) (Or.inl ⟨by rfl, fun wy hy => by obtain ⟨y0, y1, y2, y3, y4, y5, y6, y7, y8⟩ := hy; go_simp⟩) hS ?_
        refine wpAnyH_ready (rs := [26]) (by kernel_rfl) (by simp) ?_
        refine AllReadyH.cons rfl (fun K hK => ?_) AllReadyH.nil
        go_simp
        refine hK.out _ _ ⟨(z_cell_set_ne _ _ _ _ _ _ n0).trans m0, (z_cell_set_ne _ _ _ _ _ _ n1').trans m1, (z_cell_set_ne _ _ _ _ _ _ n1').trans m2, (z_cell_set_ne _ _ _ _ _ _ n1').trans m3, (z_cell_set_ne _ _ _ _ _ _ n4).trans m4, (z_cell_set_ne _ _ _ _ _ _ n5).trans m5, (z_cell_set_ne _ _ _ _ _ _ n6).trans m6, (z_cell_set_ne _ _ _ _ _ _ n7).trans m7, (z_cell_set_ne _ _ _ _ _ _ n8).trans m8⟩ (fun hS => ?_)
        refine wpAnyH_done (by kernel_rfl) ?_ _
        exact HFIN.out
    case done =>
      intro D W hD hI hK
      obtain ⟨vs1, ve1, h1, h2, h3⟩ := hI.mm
      obtain ⟨tl, htl⟩ : ∃ z, (tls F n).length = z := ⟨_, rfl⟩
      obtain ⟨A1, c1', e1⟩ := z_own_slice h1.ed
      have hlen : (edK Qs i ++ (tls F n).map (edT R O)).length = LE + tl := by rw [List.length_append, List.length_map, HLE.out, htl]
      have htl2 : tl ≤ n + 1 := by rw [← htl]; have := tls_len F n; omega
      have htle := (tls_edges HZ.out (fun m hm => by rw [HFN.out]; exact HOL.out m hm) (HQ.out.trans QSR) HNN.out).1
      obtain ⟨E, hE⟩ : ∃ z, (tls F n).map (edT R O) = z := ⟨_, rfl⟩
      have hEl : E.length = tl := by rw [← hE, List.length_map, htl]
      have hErev : edK Qs i ++ E.reverse = edK Qs (i + 1) := by
        rw [edK_succ HQI.out, ← hE, ← List.map_reverse]
        congr 1
        rw [QSR]
        exact htle
      obtain ⟨KE, hKE⟩ : ∃ z, LE + tl = z := ⟨_, rfl⟩
      have hlb := HLB.out
      have hKE1 : (edK Qs (i + 1)).length = KE := by rw [← hErev, List.length_append, List.length_reverse, HLE.out, hEl, hKE]
      rw [hlen, hKE] at e1
      subst e1
      have hown := h1.ed
      unfold EdOwn at hown
      rw [hlen, hE, hKE] at hown
      have hc1 : KE ≤ c1' ∧ c1' ≤ maxLen := by
        rcases hown.2 with ⟨e, e0⟩ | ⟨g, cap, cur, e, _, _, k1, k2, _⟩
        · cases e; exact ⟨by omega, by unfold maxLen; omega⟩
        · simp only [Value.slice.injEq] at e
          obtain ⟨_, _, rfl⟩ := e
          exact ⟨k1, k2⟩
      have cr := rev_any n1 KE c1' (edK Qs i) E A1 W (by rw [HLE.out, hEl, hKE]) hown (by omega) (c1' - LE)
      rw [HLE.out, hEl] at cr
      have hsl := slice_ed W A1 KE c1' LE (by omega) hc1.1 hc1.2
      have hKL : KE - LE = tl := by omega
      rw [hKL] at hsl
      have c7 := hI.cc.x7.cell
      have d1 := h1.cells.2.1
      have CR := Lib.hid cr
      have HH1 := Lib.hid h1; have HII := Lib.hid hI; have HKK := Lib.hid hK; have HERV := Lib.hid hErev; have HKE1 := Lib.hid hKE1; have HKE := Lib.hid hKE
      have hD' : bB + 2 ≤ D := by omega
      have hMK : Hid (ZMarks n1 W (D :: Ds)) := Lib.hid ⟨List.nodup_cons.2 ⟨fun hm => by have := hI.dl D hm; omega, hI.mks.nd⟩, fun D' hD' => by
          rcases List.mem_cons.1 hD' with rfl | hD'
          · exact ⟨by have := hI.nl; omega, hK⟩
          · exact hI.mks.at_ D' hD'⟩
      clear cr h1 hI hK hErev hlen htle hE hEl hown hKE1 hc1 htl h2 h3 hKL hKE
      gi_wp2_with (fail)
      refine ⟨trivial, ?_⟩
      gi_at_call 102
      refine (callsIn_wide.2 CR.out).mono ?_
      rintro e W2 ⟨rfl, r1, r2⟩
      obtain ⟨m1, mf⟩ := HH1.out.turn_any r2 (eds2 := edK Qs (i + 1)) (by unfold EdOwn; rw [HKE1.out, ← HERV.out]; exact r1)
      have hC2 := HII.out.cc.fr mf HH1.out.box
      have hK2 := mf.marks HH1.out.box hMK.out
      obtain ⟨hq1, _, gF, cF, f1, hgF, hNcF, hcFm, hfz⟩ := HF.out
      obtain ⟨fn, hfn⟩ : ∃ f, F[n]? = some f := ⟨_, List.getElem?_eq_getElem (by rw [HFN.out]; exact hnN)⟩
      obtain ⟨_, _, _, _, f2⟩ := hfz n fn hfn
      have hen := (HZ.out.cnt n fn hfn).2
      rw [hen] at f2
      obtain ⟨en, hen2⟩ : ∃ z, decide ([] ∈ rq R n) = z := ⟨_, rfl⟩
      rw [hen2] at f2
      have hstl : staL Qs i = (LE, KE, en) := by
        unfold staL
        rw [HLE.out, HKE1.out, List.getD_eq_getElem?_getD, HQI.out]
        show (LE, KE, decide ([] ∈ rq R n)) = _
        rw [hen2]
      obtain ⟨As, cs, es⟩ := z_own_slice m1.st
      have hsl2 : (staK Qs i).length = i := by unfold staK; rw [List.length_map, List.length_range]
      rw [hsl2] at es
      subst es
      have hsto := m1.st
      unfold StOwn at hsto
      rw [hsl2] at hsto
      have hn1W : n1 ≤ W2.heap.size := m1.ap.2.2.2.2.2
      obtain ⟨v9, w9, hrun, hown9, hgr9, hblk9⟩ := append_one (P := Tryd.prog) st_ln st_one info_st rfl (by decide) (by decide) Tryd.underlying80 W2.drew n1 _ i _ hsto (LE, KE, en) hn1W (by omega)
      obtain ⟨p1, p2, p3⟩ := (show LdM w W2.drew n1 d (staK Qs i) (edK Qs (i + 1)) (.slice As i cs) (.slice A1 KE c1') from m1.below (Below.refl _ _).drew).pushSt (v' := v9) (sts2 := staK Qs (i + 1)) _ hgr9 (by
        unfold StOwn
        rw [staK_succ, List.length_append, hsl2, hstl, gCells_snoc]
        exact hown9)
      have hf9 : LFr d n1 W2 w9 := ((LFr.of_below (Below.refl _ _).drew hn1W).trans (LFr.of_below (bel_one W2.drew _) hn1W)).trans (LFr.of_row (base := n1) hgr9 (by simp; exact Nat.le_succ_of_le hn1W) (hsto.alloc _) (.inl rfl))
      have p2' : LFr d n1 W2 (w9.setCell ⟨d, 0, none⟩ v9) := (LFr.of_below (Below.refl _ _).drew hn1W).trans p2
      have hC9 := hC2.fr hf9 m1.box
      have hCF : Hid (LdC (w9.setCell ⟨d, 0, none⟩ v9) n1 q gn N n1 b6 (d + 1) d O (.slice (some ⟨go, 0, none⟩) NO cO)) := Lib.hid (hC2.fr p2' m1.box)
      have hKF : Hid (ZMarks n1 (w9.setCell ⟨d, 0, none⟩ v9) (D :: Ds)) := Lib.hid (p2'.marks m1.box hK2)
      have hPF := Lib.hid p1
      have hqn : q < n1 := by have := HN1.out; omega
      have hw1n : w.heap.size = n1 := HN1.out
      have hdn := m1.d0
      have c0 := hC2.x7.cell
      have c1 := m1.cells.2.1
      have c2 := hC2.x2.cell
      have c3 := (m1.bel.cell (p := ⟨q, 1, none⟩) (show q < n1 by omega)).trans f1
      have c4 := (m1.bel.cell (p := ⟨gF, n * 5 + 4, none⟩) (show gF < n1 by omega)).trans f2
      have m0 := hC9.x7.cell
      have m2 := hC9.x2.cell
      have m3 := (hf9.bel.cell (p := ⟨q, 1, none⟩) (show q < n1 by omega)).trans c3
      have m4 := (hf9.bel.cell (p := ⟨gF, n * 5 + 4, none⟩) (show gF < n1 by omega)).trans c4
      have n0 : d + 1 ≠ d := by omega
      have n6 : n1 ≠ d := by have := hC2.x2; intro e; unfold Boxed at this; rw [e, m1.box] at this; simp only [Option.some.injEq, Obj.cells.injEq] at this; exact absurd this.2.1 (by decide)
      have n7 : q ≠ d := by omega
      have n8 : gF ≠ d := by omega
      obtain ⟨A9, c9, e9⟩ := z_own_slice hown9
      subst e9
      have m1s := p1.cells.2.1
      have e0 := m1.cells.1
      have d1a : (W2.drew.alloc (.cells #[.int .i32 (LE : Int), .int .i32 (KE : Int), .bool en] 92)).cell? ⟨d, 0, none⟩ = some (.slice As i cs) := cell_keep (bel_one _ _) e0
      have d1b : (W2.alloc (.cells #[.int .i32 (LE : Int), .int .i32 (KE : Int), .bool en] 92)).drew.cell? ⟨d, 0, none⟩ = some (.slice As i cs) := cell_keep (bel_one _ _).drew e0
      have g1 : w9.cell? ⟨d, 0, none⟩ = some (.slice As i cs) := by rw [cell_of_row _ _ _ _ _ (0, 0) p3]; rfl
      have g2 : w9.frozen? ⟨d, 0, none⟩ = false := by simp [World.frozen?, p3]
      have m1 : w9.cell? ⟨d, 1, none⟩ = some (.slice A1 KE c1') := by rw [cell_of_row _ _ _ _ _ (0, 0) p3]; rfl
      have hnN2 : (n : Int) < (N : Int) := by omega
      have wk1 : IntKind.i32.wrap (LE : Int) = (LE : Int) := by rw [IntKind.wrap_i32]; omega
      have wk2 : IntKind.i32.wrap (KE : Int) = (KE : Int) := by rw [IntKind.wrap_i32]; have := HKE.out; omega
      have HRUN := Lib.hid hrun
      clear hf9 hC9 hC2 hK2 hfz f1 f2 hen hen2 hstl hsl2 hsto hn1W hown9 hgr9 hblk9 p1 p2 p2' p3 hrun hfn mf r1 r2 hdn HH1 HII HKK hMK CR hsl c7 d1
      gi_wp2
      refine wpIn_wide.2 ?_
      apply z_region_at (W := w9.setCell ⟨d, 0, none⟩ (.slice A9 (i + 1) c9))
      · refine wp_region_held_drew (S := fun wx => wx.cell? ⟨d + 1, 0, none⟩ = some (.pointer (some ⟨d, 0, none⟩)) ∧ wx.cell? ⟨d, 1, none⟩ = some (.slice A1 KE c1') ∧ wx.cell? ⟨n1, 0, none⟩ = some (.pointer (some ⟨q, 0, none⟩)) ∧ wx.cell? ⟨q, 1, none⟩ = some (.slice (some ⟨gF, 0, none⟩) N cF) ∧ wx.cell? ⟨gF, n * 5 + 4, none⟩ = some (.bool en)) (by kernel_rfl) ⟨c0, c1, c2, c3, c4⟩ (fun hS => ?_)
        change wpAnyH _ _ _ _ _ 27 _ _ _
        refine wpAnyH_take (i := 0) (v := .pointer (some ⟨d, 0, none⟩)) rfl (by kernel_rfl) (by kernel_rfl) (by kernel_rfl) (fun _ _ _ h => h) (Or.inl ⟨by rfl, fun wy hy => by obtain ⟨y0, y1, y2, y3, y4⟩ := hy; go_simp⟩) hS ?_
        refine wpAnyH_take (i := 1) (v := .pointer (some ⟨d, 0, none⟩)) rfl (by kernel_rfl) (by kernel_rfl) (by kernel_rfl) (fun _ _ _ h => h) (Or.inl ⟨by rfl, fun wy hy => by obtain ⟨y0, y1, y2, y3, y4⟩ := hy; go_simp⟩) hS ?_
        refine wpAnyH_take (i := 2) (v := .pointer (some ⟨d, 0, none⟩)) rfl (by kernel_rfl) (by kernel_rfl) (by kernel_rfl) (fun _ _ _ h => h) (Or.inl ⟨by rfl, fun wy hy => by obtain ⟨y0, y1, y2, y3, y4⟩ := hy; go_simp⟩) hS ?_
        refine wpAnyH_take (i := 3) (v := .pointer (some ⟨d, 0, none⟩)) rfl (by kernel_rfl) (by kernel_rfl) (by kernel_rfl) (fun _ _ _ h => h) (Or.inl ⟨by rfl, fun wy hy => by obtain ⟨y0, y1, y2, y3, y4⟩ := hy; go_simp⟩) hS ?_
        refine wpAnyH_take (i := 5) (v := .int .i64 (LE : Int)) rfl (by kernel_rfl) (by kernel_rfl) (by kernel_rfl) (fun _ _ _ h => h) (Or.inl ⟨by rfl, fun wy hy => by obtain ⟨y0, y1, y2, y3, y4⟩ := hy; go_simp⟩) hS ?_
        refine wpAnyH_take (i := 6) (v := .int .i32 (LE : Int)) rfl (by kernel_rfl) (by kernel_rfl) (by kernel_rfl) (fun _ _ _ h => h) (Or.inl ⟨by rfl, fun wy hy => by obtain ⟨y0, y1, y2, y3, y4⟩ := hy; go_simp⟩) hS ?_
        refine wpAnyH_take (i := 7) (v := .pointer (some ⟨d, 0, none⟩)) rfl (by kernel_rfl) (by kernel_rfl) (by kernel_rfl) (fun _ _ _ h => h) (Or.inl ⟨by rfl, fun wy hy => by obtain ⟨y0, y1, y2, y3, y4⟩ := hy; go_simp⟩) hS ?_
        refine wpAnyH_take (i := 8) (v := .pointer (some ⟨d, 0, none⟩)) rfl (by kernel_rfl) (by kernel_rfl) (by kernel_rfl) (fun _ _ _ h => h) (Or.inl ⟨by rfl, fun wy hy => by obtain ⟨y0, y1, y2, y3, y4⟩ := hy; go_simp⟩) hS ?_
        refine wpAnyH_take (i := 9) (v := .pointer (some ⟨d, 1, none⟩)) rfl (by kernel_rfl) (by kernel_rfl) (by kernel_rfl) (fun _ _ _ h => h) (Or.inl ⟨by rfl, fun wy hy => by obtain ⟨y0, y1, y2, y3, y4⟩ := hy; go_simp⟩) hS ?_
        refine wpAnyH_take (i := 10) (v := .slice A1 KE c1') rfl (by kernel_rfl) (by kernel_rfl) (by kernel_rfl) (fun _ _ _ h => h) (Or.inl ⟨by rfl, fun wy hy => by obtain ⟨y0, y1, y2, y3, y4⟩ := hy; go_simp⟩) hS ?_
        refine wpAnyH_take (i := 11) (v := .int .i64 (KE : Int)) rfl (by kernel_rfl) (by kernel_rfl) (by kernel_rfl) (fun _ _ _ h => h) (Or.inl ⟨by rfl, fun wy hy => by obtain ⟨y0, y1, y2, y3, y4⟩ := hy; go_simp⟩) hS ?_
        refine wpAnyH_take (i := 12) (v := .int .i32 (KE : Int)) rfl (by kernel_rfl) (by kernel_rfl) (by kernel_rfl) (fun _ _ _ h => h) (Or.inl ⟨by rfl, fun wy hy => by obtain ⟨y0, y1, y2, y3, y4⟩ := hy; go_simp⟩) hS ?_
        refine wpAnyH_take (i := 13) (v := .pointer (some ⟨q, 0, none⟩)) rfl (by kernel_rfl) (by kernel_rfl) (by kernel_rfl) (fun _ _ _ h => h) (Or.inl ⟨by rfl, fun wy hy => by obtain ⟨y0, y1, y2, y3, y4⟩ := hy; go_simp⟩) hS ?_
        refine wpAnyH_take (i := 14) (v := .pointer (some ⟨q, 0, none⟩)) rfl (by kernel_rfl) (by kernel_rfl) (by kernel_rfl) (fun _ _ _ h => h) (Or.inl ⟨by rfl, fun wy hy => by obtain ⟨y0, y1, y2, y3, y4⟩ := hy; go_simp⟩) hS ?_
        refine wpAnyH_take (i := 15) (v := .pointer (some ⟨q, 1, none⟩)) rfl (by kernel_rfl) (by kernel_rfl) (by kernel_rfl) (fun _ _ _ h => h) (Or.inl ⟨by rfl, fun wy hy => by obtain ⟨y0, y1, y2, y3, y4⟩ := hy; go_simp⟩) hS ?_
        refine wpAnyH_take (i := 16) (v := .slice (some ⟨gF, 0, none⟩) N cF) rfl (by kernel_rfl) (by kernel_rfl) (by kernel_rfl) (fun _ _ _ h => h) (Or.inl ⟨by rfl, fun wy hy => by obtain ⟨y0, y1, y2, y3, y4⟩ := hy; go_simp⟩) hS ?_
        refine wpAnyH_take (i := 17) (v := .int .i32 (n : Int)) rfl (by kernel_rfl) (by kernel_rfl) (by kernel_rfl) (fun _ _ _ h => h) (Or.inl ⟨by rfl, fun wy hy => by obtain ⟨y0, y1, y2, y3, y4⟩ := hy; go_simp⟩) hS ?_
        refine wpAnyH_take (i := 18) (v := .pointer (some ⟨gF, n * 5, none⟩)) rfl (by kernel_rfl) (by kernel_rfl) (by kernel_rfl) (fun _ _ _ h => h) (Or.inl ⟨by rfl, fun wy hy => by obtain ⟨y0, y1, y2, y3, y4⟩ := hy; go_simp⟩) hS ?_
        refine wpAnyH_take (i := 19) (v := .pointer (some ⟨gF, n * 5 + 4, none⟩)) rfl (by kernel_rfl) (by kernel_rfl) (by kernel_rfl) (fun _ _ _ h => h) (Or.inl ⟨by rfl, fun wy hy => by obtain ⟨y0, y1, y2, y3, y4⟩ := hy; go_simp⟩) hS ?_
        refine wpAnyH_take (i := 20) (v := .bool en) rfl (by kernel_rfl) (by kernel_rfl) (by kernel_rfl) (fun _ _ _ h => h) (Or.inl ⟨by rfl, fun wy hy => by obtain ⟨y0, y1, y2, y3, y4⟩ := hy; go_simp⟩) hS ?_
        refine wpAnyH_take (i := 21) (v := .agg #[.int .i32 (LE : Int), .int .i32 (KE : Int), .bool en]) rfl (by kernel_rfl) (by kernel_rfl) (by kernel_rfl) (fun _ _ _ h => h) (Or.inl ⟨by rfl, fun wy hy => by obtain ⟨y0, y1, y2, y3, y4⟩ := hy; go_simp⟩) hS ?_
        refine wpAnyH_ready (rs := [4, 22]) (by kernel_rfl) (by simp) ?_
        refine AllReadyH.cons rfl (fun K hK => ?_) (AllReadyH.cons rfl (fun K hK => ?_) AllReadyH.nil)
        · go_simp
          refine hK.out _ _ hS (fun hS => ?_)
          refine wpAnyH_ready (rs := [22]) (by kernel_rfl) (by simp) ?_
          refine AllReadyH.cons rfl (fun K hK => ?_) AllReadyH.nil
          go_simp
          refine hK.out _ _ ⟨cell_keep (bel_one _ _) hS.1, cell_keep (bel_one _ _) hS.2.1, cell_keep (bel_one _ _) hS.2.2.1, cell_keep (bel_one _ _) hS.2.2.2.1, cell_keep (bel_one _ _) hS.2.2.2.2⟩ (fun hS => ?_)
          refine wpAnyH_ready (rs := [23]) (by kernel_rfl) (by simp) ?_
          refine AllReadyH.cons rfl (fun K hK => ?_) AllReadyH.nil
          refine xstep_append ?_ (.tmp 75) (.tmp 93) 80 _ _ _ _ ?_ HRUN.out ?_ ?_ ?_
          · rfl
          · rfl
          · go_simp
          · go_simp
          refine hK.out _ _ ⟨m0, m1, m2, m3, m4⟩ (fun hS => ?_)
          refine wpAnyH_take (i := 24) (v := .pointer (some ⟨d, 0, none⟩)) rfl (by kernel_rfl) (by kernel_rfl) (by kernel_rfl) (fun _ _ _ h => h) (Or.inl ⟨by rfl, fun wy hy => by obtain ⟨y0, y1, y2, y3, y4⟩ := hy; go_simp⟩) hS ?_
          refine wpAnyH_take (i := 25) (v := .pointer (some ⟨d, 0, none⟩)) rfl (by kernel_rfl) (by kernel_rfl) (by kernel_rfl) (fun _ _ _ h => h) (Or.inl ⟨by rfl, fun wy hy => by obtain ⟨y0, y1, y2, y3, y4⟩ := hy; go_simp⟩) hS ?_
          refine wpAnyH_ready (rs := [26]) (by kernel_rfl) (by simp) ?_
          refine AllReadyH.cons rfl (fun K hK => ?_) AllReadyH.nil
          go_simp
          refine hK.out _ _ ⟨(z_cell_set_ne _ _ _ _ _ _ n0).trans m0, m1s, (z_cell_set_ne _ _ _ _ _ _ n6).trans m2, (z_cell_set_ne _ _ _ _ _ _ n7).trans m3, (z_cell_set_ne _ _ _ _ _ _ n8).trans m4⟩ (fun hS => ?_)
          exact wpAnyH_done (by kernel_rfl) ⟨rfl, rfl⟩ _
        · go_simp
          refine hK.out _ _ ⟨cell_keep (bel_one _ _) hS.1, cell_keep (bel_one _ _) hS.2.1, cell_keep (bel_one _ _) hS.2.2.1, cell_keep (bel_one _ _) hS.2.2.2.1, cell_keep (bel_one _ _) hS.2.2.2.2⟩ (fun hS => ?_)
          refine wpAnyH_ready (rs := [4]) (by kernel_rfl) (by simp) ?_
          refine AllReadyH.cons rfl (fun K hK => ?_) AllReadyH.nil
          go_simp
          refine hK.out _ _ hS (fun hS => ?_)
          refine wpAnyH_ready (rs := [23]) (by kernel_rfl) (by simp) ?_
          refine AllReadyH.cons rfl (fun K hK => ?_) AllReadyH.nil
          refine xstep_append ?_ (.tmp 75) (.tmp 93) 80 _ _ _ _ ?_ HRUN.out ?_ ?_ ?_
          · rfl
          · rfl
          · go_simp
          · go_simp
          refine hK.out _ _ ⟨m0, m1, m2, m3, m4⟩ (fun hS => ?_)
          refine wpAnyH_take (i := 24) (v := .pointer (some ⟨d, 0, none⟩)) rfl (by kernel_rfl) (by kernel_rfl) (by kernel_rfl) (fun _ _ _ h => h) (Or.inl ⟨by rfl, fun wy hy => by obtain ⟨y0, y1, y2, y3, y4⟩ := hy; go_simp⟩) hS ?_
          refine wpAnyH_take (i := 25) (v := .pointer (some ⟨d, 0, none⟩)) rfl (by kernel_rfl) (by kernel_rfl) (by kernel_rfl) (fun _ _ _ h => h) (Or.inl ⟨by rfl, fun wy hy => by obtain ⟨y0, y1, y2, y3, y4⟩ := hy; go_simp⟩) hS ?_
          refine wpAnyH_ready (rs := [26]) (by kernel_rfl) (by simp) ?_
          refine AllReadyH.cons rfl (fun K hK => ?_) AllReadyH.nil
          go_simp
          refine hK.out _ _ ⟨(z_cell_set_ne _ _ _ _ _ _ n0).trans m0, m1s, (z_cell_set_ne _ _ _ _ _ _ n6).trans m2, (z_cell_set_ne _ _ _ _ _ _ n7).trans m3, (z_cell_set_ne _ _ _ _ _ _ n8).trans m4⟩ (fun hS => ?_)
          exact wpAnyH_done (by kernel_rfl) ⟨rfl, rfl⟩ _
      obtain ⟨wf, hwf⟩ : ∃ z, w9.setCell ⟨d, 0, none⟩ (.slice A9 (i + 1) c9) = z := ⟨_, rfl⟩
      rw [hwf] at hCF hKF hPF ⊢
      clear hwf m0 m1 m2 m3 m4 m1s g1 g2 c0 c1 c2 c3 c4 e0 d1a d1b HRUN HEK
      gi_wp2
      exact ⟨⟨i + 1, _, _, D :: Ds, _, _, _, _, _, _, _, _, _, _, _, _, _, _, _, _, _, _, _, _, _, _, _, _, _, _, _, _, _, _, _, _, _, _, _, _, _, _, _, _, _, _, _, _, _, _, _, _, _, _, _, _, _, _, _, _, _, _, _, _, _, _, _, _, _, _, _, _, _, _, _, _, _, _, _, _, _, ⟨by omega, hPF, hCF, hKF⟩, rfl⟩, by simp [intOf]; omega⟩
  · obtain rfl : i = NO := by omega
    have i1 : ¬ (i : Int) < (i : Int) := by omega
    have c7 := HC.out.x7.cell
    have HE : Hid (Qs.length = i) := Lib.hid (by rw [← HQ.out, List.length_map, HNO.out])
    gi_wp2
    refine z_leaves_marks Ds wr HM.out.ap.2.2.2.2.2 HK.out (fun w' hb' hk' => ?_)
    refine ⟨_, results_tmp rfl _ _ _, ?_⟩
    refine ⟨d, vs, ve, rfl, ?_⟩
    rw [HE.out]
    exact ⟨hk' d _ HM.out.box rfl, z_own_cells HM.out.st hk', z_own_cells HM.out.ed hk', HM.out.bel.trans hb', HM.out.d0⟩
end Go.Proofs.YtljaibhhkjapmaaDoor

