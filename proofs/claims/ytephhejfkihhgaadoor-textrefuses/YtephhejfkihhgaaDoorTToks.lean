/- The tokens that text.tokens hands on, and text.Tokens. -/
import Derived.Test.YtephhejfkihhgaaDoorTSeq
import Derived.Test.YtephhejfkihhgaaDoorTSpans
namespace Go.Proofs.YtephhejfkihhgaaDoor
open Go.RowKit Go.Shelf
attribute [local go_sem] Oper.semAt_some spV

/-- The tokens' texts among pieces. -/
def tokS (s : ByteArray) (ps : List Sp) : List ByteArray := (ps.filter (fun p => p.2.2)).map (fun p => s.extract p.1.toNat p.2.1.toNat)
theorem tokS_snoc (s : ByteArray) (ps : List Sp) (p : Sp) : tokS s (ps ++ [p]) = tokS s ps ++ (if p.2.2 then [s.extract p.1.toNat p.2.1.toNat] else []) := by
  unfold tokS
  rw [List.filter_append, List.map_append]
  cases h : p.2.2 <;> simp [h]
theorem tokS_len (s : ByteArray) (ps : List Sp) : (tokS s ps).length ≤ ps.length := by
  unfold tokS; rw [List.length_map]; exact List.length_filter_le _ _

/-- A region's states under one name. -/
theorem anyIn_memo {F : Fence} {n : Nat} {P : Program} {md : Region.Mode} {ops : Array Oper} {Q : Exit → Act → World → Prop} {f0 : Nat} {l0 : Array Bool} {a0 : Act} {w0 : World}
    (h : ∀ C : Nat → Array Bool → Act → World → Prop, (∀ f l a w, C f l a w ↔ wpAnyIn F n P md ops Q f l a w) → C f0 l0 a0 w0) : wpAnyIn F n P md ops Q f0 l0 a0 w0 := h _ (fun _ _ _ _ => Iff.rfl)
theorem keepsFrom_below {B : Nat} {W W' : World} (h : Below W.heap.size W W') : KeepsFrom B W W' := ⟨h.size, fun k _ _ hk _ => (h.block k (Array.getElem?_eq_some_iff.1 hk).1).trans hk⟩
theorem KeepsFrom.up {B C : Nat} {W W' : World} (h : KeepsFrom B W W') (hB : B ≤ C) : KeepsFrom C W W' := ⟨h.size, fun k o hk h0 ho => h.same k o (Nat.le_trans hB hk) h0 ho⟩

theorem clone_any (s : ByteArray) (w : World) (hlim : s.size ≤ 281474976710656) :
    Calls Tryd.prog 47 #[.string s] w fun e w' => e = .returned (.string s) ∧ Below w.heap.size w w' := by
  have C := Lib.hid (Tryd.stringslite_Clone s w hlim)
  go_enter Tryd.func47, Tryd.ntmps47
  go_wp2_with fail
  refine C.out.mono ?_
  rintro e w1 ⟨rfl, hb⟩
  go_wp2
  go_ret
  exact ⟨rfl, hb⟩
theorem tokens_fn (s : ByteArray) (w : World) :
    Calls Tryd.prog 30 #[.string s] w fun e w' => e = .returned (.func (.func 46) #[] #[.pointer (some ⟨w.heap.size, 0, none⟩)]) ∧ w' = w.alloc (.cells #[.string s] 9) := by
  go_enter Tryd.func30, Tryd.ntmps30
  go_wp2
  go_ret
  exact ⟨rfl, rfl⟩

set_option maxRecDepth 100000 in
set_option maxHeartbeats 4000000 in
theorem titer (Bs n₀ : Nat) (s : ByteArray) (hs : s.size ≤ 1048576) (hv : Lib.validD s.data.toList = true) (w : World) (hn0 : n₀ ≤ w.heap.size) (hBs : Bs < w.heap.size)
    (hc : w.cell? ⟨Bs, 0, none⟩ = some (.string s)) :
    SeqT 5 Tryd.prog 46 #[.pointer (some ⟨Bs, 0, none⟩)] (fun x : ByteArray => #[.string x]) (Keep n₀ Bs) (fun ys => ys = tokS s (spansL s.data.toList)) s.size w := by
  intro l J W hW hJ hY h0
  have hmix : Tryd.prog.follows .mixedOrders = true := by kernel_rfl
  have hcW : W.cell? ⟨Bs, 0, none⟩ = some (.string s) := (hW.cell (p := ⟨Bs, 0, none⟩) hBs).trans hc
  have hBW : Bs < W.heap.size := Nat.lt_of_lt_of_le hBs hW.size
  have hnW : n₀ ≤ W.heap.size := Nat.le_trans hn0 hW.size
  have hcA : (W.alloc (.cells #[.func (.yield l) #[] #[]] 32)).cell? ⟨Bs, 0, none⟩ = some (.string s) := (((Below.refl _ W).alloc (Nat.le_refl _) _).cell (p := ⟨Bs, 0, none⟩) hBW).trans hcW
  refine callsIn_of_wp_marks Tryd.func46 rfl trivial ?_ rfl
  simp only [Tryd.ntmps46, List.size_toArray, List.length_cons, List.length_nil, Nat.reduceAdd, Nat.reduceSub, Array.replicate_succ, Array.replicate_zero, List.push_toArray, List.append_toArray, List.nil_append, List.cons_append]
  gi_wp2_with (refine ⟨trivial, ?_⟩; gi_at_call 26; refine (callsIn_wide.2 (pieces_any _ _)).mono ?_; rintro e w' ⟨rfl, rfl⟩)
  have bY := Boxed.new W 32 (.func (.yield l) #[] #[])
  have bS := Boxed.new (W.alloc (.cells #[.func (.yield l) #[] #[]] 32)) 9 (.string s)
  rw [World.size_alloc] at bS
  have hB0 : Below W.heap.size W ((W.alloc (.cells #[.func (.yield l) #[] #[]] 32)).alloc (.cells #[.string s] 9)) := ((Below.refl _ W).alloc (Nat.le_refl _) _).alloc (by simp) _
  refine wpIn_rangeFunc_ownH rfl (by decide) (gf := 41) (lb := #[.pointer (some ⟨W.heap.size + 1, 0, none⟩)]) rfl trivial (enters_of Tryd.func41 (by kernel_rfl) rfl)
    (piterI_stops 4 (by decide) (W.heap.size + 1) n₀ s hs hv _ (by simp; omega) (by simp) bS.cell) Keep.trans (keepK_b (by simp; omega) (by simp)) (Below.refl _ _) (fun _ => rfl)
    (fun (pre : List (SpI s.size)) W' => J (tokS s (spL pre)) W' ∧ Boxed W' W.heap.size 32 (.func (.yield l) #[] #[]) ∧ Boxed W' (W.heap.size + 1) 9 (.string s) ∧ W'.heap[Bs]? = W.heap[Bs]?)
    (fun _ _ _ => False)
    (fun pre X Y row hx hg hr => by
      obtain ⟨hj, y1, y2, y3⟩ := hx
      have hsz := y2.lt
      have hr' : ∀ r, row = some r → W.heap.size + 2 ≤ r ∧ ∃ o : Obj, X.heap[r]? = some o ∧ o.isCells = false := fun r e => ⟨by have := (hr r e).1; simp at this; omega, (hr r e).2⟩
      have hne : ∀ k, k < W.heap.size + 2 → some k ≠ row := fun k hk e => by have := (hr' k e.symm).1; omega
      exact ⟨hJ _ X Y hj (by omega) (Priv.of_grown hg hr' (by omega)), y1.kept hg (hne _ (by omega)), y2.kept hg (hne _ (by omega)), (hg.block Bs (by omega) (hne _ (by omega))).trans y3⟩)
    (fun c => ownFrom_pure _ (fun _ => False))
    ⟨hJ _ _ _ h0 (Nat.le_refl _) (Priv.of_below hB0 (Nat.le_refl _)), bY.alloc _, bS, hB0.block Bs hBW⟩
    (fun x a' W' => ∃ k, a' = { tmps := #[.func (.yield l) #[] #[], .pointer (some ⟨Bs, 0, none⟩), .pointer (some ⟨W.heap.size, 0, none⟩), .pointer (some ⟨k, 0, none⟩), .string s, .func (.func 41) #[] #[.pointer (some ⟨W.heap.size + 1, 0, none⟩)], spV x.val, undef, undef, undef, undef, undef, undef, undef, undef, undef, undef, undef, undef, undef, undef], defers := [] } ∧ W'.heap[k]? = some (.cells (spC x.val).toArray 43 (0, 0)))
    (fun x a' s X Y row hx hg hr => by
      obtain ⟨k, e, hk⟩ := hx
      exact ⟨k, e, (hg.block k (Array.getElem?_eq_some_iff.1 hk).1 (fun e' => by obtain ⟨_, o, ho, hc⟩ := hr k e'.symm; rw [hk] at ho; cases ho; cases hc)).trans hk⟩)
    ?assign ?body ?done ?stop
  case assign =>
    rintro l' pre x W' K ⟨hj, y1, y2, y3⟩ hK
    have hsz := y2.lt
    gi_wp2
    have hbe : ∀ o, Below W'.heap.size W' (W'.alloc o) := fun o => (Below.refl _ W').alloc (Nat.le_refl _) o
    exact hK _ _ ((KeepsOthers.alloc W' _).from _) (Keep.of_below (hbe _) (by omega) hsz) ⟨hJ _ _ _ hj (by omega) (Priv.of_below (hbe _) (by omega)), y1.alloc _, y2.alloc _, ((hbe _).block Bs (by omega)).trans y3⟩ ⟨W'.heap.size, rfl, heap_alloc_new W' _⟩
  case body =>
    rintro l' pre x a' W' hl' _ ⟨hj, y1, y2, y3⟩ ⟨k, rfl, hk⟩ hlt
    have hsz := y2.lt
    have hcs : W'.cell? ⟨Bs, 0, none⟩ = some (.string s) := (World.cell?_of_block y3).trans hcW
    have hcy := y1.cell
    have p0 : W'.cell? ⟨k, 0, none⟩ = some (.int .i64 x.val.1) := by simp [World.cell?, hk, spC]
    have p1 : W'.cell? ⟨k, 1, none⟩ = some (.int .i64 x.val.2.1) := by simp [World.cell?, hk, spC]
    have p2 : W'.cell? ⟨k, 2, none⟩ = some (.bool x.val.2.2) := by simp [World.cell?, hk, spC]
    cases htk : x.val.2.2
    · rw [htk] at p2
      rw [show spV x.val = .agg #[.int .i64 x.val.1, .int .i64 x.val.2.1, .bool false] by simp [spV, htk]]
      gi_wp2
      refine wpIn_region_any hmix ?_
      change wpAnyIn _ _ _ _ _ _ _ _ _ (World.drew _)
      refine anyIn_memo fun C hC => ?_
      have M_11111111111111 : C 0 #[true, true, true, true, true, true, true, true, true, true, true, true, true, true] { tmps := #[.func (.yield l) #[] #[], .pointer (some ⟨Bs, 0, none⟩), .pointer (some ⟨W.heap.size, 0, none⟩), .pointer (some ⟨k, 0, none⟩), .string s, .func (.func 41) #[] #[.pointer (some ⟨W.heap.size + 1, 0, none⟩)], .agg #[.int .i64 x.val.1, .int .i64 x.val.2.1, .bool false], .pointer (some ⟨k, 2, none⟩), .bool false, .bool false, undef, undef, undef, undef, undef, undef, undef, undef, undef, undef, .bool false], defers := [] } W'.drew := by
        refine (hC _ _ _ _).2 (wpAnyIn_done (by kernel_rfl) ?_ _)
        gi_wp2
        have hbd : Below W'.heap.size W' W'.drew := (Below.refl _ W').drew
        exact ⟨keepsFrom_below hbd, Keep.of_below hbd (by omega) hsz, by rw [spL_snoc, tokS_snoc, htk]; simpa using hJ _ _ _ hj (by omega) (Priv.of_below hbd (by omega)), y1, y2, y3⟩
      have M_11111111111110 : C 1 #[true, true, true, true, true, true, true, true, true, true, true, true, true, false] { tmps := #[.func (.yield l) #[] #[], .pointer (some ⟨Bs, 0, none⟩), .pointer (some ⟨W.heap.size, 0, none⟩), .pointer (some ⟨k, 0, none⟩), .string s, .func (.func 41) #[] #[.pointer (some ⟨W.heap.size + 1, 0, none⟩)], .agg #[.int .i64 x.val.1, .int .i64 x.val.2.1, .bool false], .pointer (some ⟨k, 2, none⟩), .bool false, .bool false, undef, undef, undef, undef, undef, undef, undef, undef, undef, undef, undef], defers := [] } W'.drew := by
        refine (hC _ _ _ _).2 (wpAnyIn_ready (rs := [13]) (by kernel_rfl) (by simp) ?_)
        refine AllReadyIn.cons rfl (fun K hK => ?_) ?_
        · go_simp; first | exact hK _ _ ((hC _ _ _ _).1 M_11111111111111) | exact ⟨trivial, hK _ _ ((hC _ _ _ _).1 M_11111111111111)⟩ | exact ⟨fun _ _ => trivial, hK _ _ ((hC _ _ _ _).1 M_11111111111111)⟩
        exact AllReadyIn.nil
      have M_11111111111100 : C 2 #[true, true, true, true, true, true, true, true, true, true, true, true, false, false] { tmps := #[.func (.yield l) #[] #[], .pointer (some ⟨Bs, 0, none⟩), .pointer (some ⟨W.heap.size, 0, none⟩), .pointer (some ⟨k, 0, none⟩), .string s, .func (.func 41) #[] #[.pointer (some ⟨W.heap.size + 1, 0, none⟩)], .agg #[.int .i64 x.val.1, .int .i64 x.val.2.1, .bool false], .pointer (some ⟨k, 2, none⟩), .bool false, .bool false, undef, undef, undef, undef, undef, undef, undef, undef, undef, undef, undef], defers := [] } W'.drew := by
        refine (hC _ _ _ _).2 (wpAnyIn_ready (rs := [12]) (by kernel_rfl) (by simp) ?_)
        refine AllReadyIn.cons rfl (fun K hK => ?_) ?_
        · go_simp; first | exact hK _ _ ((hC _ _ _ _).1 M_11111111111110) | exact ⟨trivial, hK _ _ ((hC _ _ _ _).1 M_11111111111110)⟩ | exact ⟨fun _ _ => trivial, hK _ _ ((hC _ _ _ _).1 M_11111111111110)⟩
        exact AllReadyIn.nil
      have M_11111111111000 : C 3 #[true, true, true, true, true, true, true, true, true, true, true, false, false, false] { tmps := #[.func (.yield l) #[] #[], .pointer (some ⟨Bs, 0, none⟩), .pointer (some ⟨W.heap.size, 0, none⟩), .pointer (some ⟨k, 0, none⟩), .string s, .func (.func 41) #[] #[.pointer (some ⟨W.heap.size + 1, 0, none⟩)], .agg #[.int .i64 x.val.1, .int .i64 x.val.2.1, .bool false], .pointer (some ⟨k, 2, none⟩), .bool false, .bool false, undef, undef, undef, undef, undef, undef, undef, undef, undef, undef, undef], defers := [] } W'.drew := by
        refine (hC _ _ _ _).2 (wpAnyIn_ready (rs := [11]) (by kernel_rfl) (by simp) ?_)
        refine AllReadyIn.cons rfl (fun K hK => ?_) ?_
        · go_simp; first | exact hK _ _ ((hC _ _ _ _).1 M_11111111111100) | exact ⟨trivial, hK _ _ ((hC _ _ _ _).1 M_11111111111100)⟩ | exact ⟨fun _ _ => trivial, hK _ _ ((hC _ _ _ _).1 M_11111111111100)⟩
        exact AllReadyIn.nil
      have M_11101111111000 : C 4 #[true, true, true, false, true, true, true, true, true, true, true, false, false, false] { tmps := #[.func (.yield l) #[] #[], .pointer (some ⟨Bs, 0, none⟩), .pointer (some ⟨W.heap.size, 0, none⟩), .pointer (some ⟨k, 0, none⟩), .string s, .func (.func 41) #[] #[.pointer (some ⟨W.heap.size + 1, 0, none⟩)], .agg #[.int .i64 x.val.1, .int .i64 x.val.2.1, .bool false], .pointer (some ⟨k, 2, none⟩), .bool false, .bool false, undef, undef, undef, undef, undef, undef, undef, undef, undef, undef, undef], defers := [] } W'.drew := by
        refine (hC _ _ _ _).2 (wpAnyIn_ready (rs := [3]) (by kernel_rfl) (by simp) ?_)
        refine AllReadyIn.cons rfl (fun K hK => ?_) ?_
        · go_simp; first | exact hK _ _ ((hC _ _ _ _).1 M_11111111111000) | exact ⟨trivial, hK _ _ ((hC _ _ _ _).1 M_11111111111000)⟩ | exact ⟨fun _ _ => trivial, hK _ _ ((hC _ _ _ _).1 M_11111111111000)⟩
        exact AllReadyIn.nil
      have M_11111111110000 : C 4 #[true, true, true, true, true, true, true, true, true, true, false, false, false, false] { tmps := #[.func (.yield l) #[] #[], .pointer (some ⟨Bs, 0, none⟩), .pointer (some ⟨W.heap.size, 0, none⟩), .pointer (some ⟨k, 0, none⟩), .string s, .func (.func 41) #[] #[.pointer (some ⟨W.heap.size + 1, 0, none⟩)], .agg #[.int .i64 x.val.1, .int .i64 x.val.2.1, .bool false], .pointer (some ⟨k, 2, none⟩), .bool false, .bool false, undef, undef, undef, undef, undef, undef, undef, undef, undef, undef, undef], defers := [] } W'.drew := by
        refine (hC _ _ _ _).2 (wpAnyIn_ready (rs := [10]) (by kernel_rfl) (by simp) ?_)
        refine AllReadyIn.cons rfl (fun K hK => ?_) ?_
        · go_simp; first | exact hK _ _ ((hC _ _ _ _).1 M_11111111111000) | exact ⟨trivial, hK _ _ ((hC _ _ _ _).1 M_11111111111000)⟩ | exact ⟨fun _ _ => trivial, hK _ _ ((hC _ _ _ _).1 M_11111111111000)⟩
        exact AllReadyIn.nil
      have M_11111111100000 : C 5 #[true, true, true, true, true, true, true, true, true, false, false, false, false, false] { tmps := #[.func (.yield l) #[] #[], .pointer (some ⟨Bs, 0, none⟩), .pointer (some ⟨W.heap.size, 0, none⟩), .pointer (some ⟨k, 0, none⟩), .string s, .func (.func 41) #[] #[.pointer (some ⟨W.heap.size + 1, 0, none⟩)], .agg #[.int .i64 x.val.1, .int .i64 x.val.2.1, .bool false], .pointer (some ⟨k, 2, none⟩), .bool false, .bool false, undef, undef, undef, undef, undef, undef, undef, undef, undef, undef, undef], defers := [] } W'.drew := by
        refine (hC _ _ _ _).2 (wpAnyIn_ready (rs := [9]) (by kernel_rfl) (by simp) ?_)
        refine AllReadyIn.cons rfl (fun K hK => ?_) ?_
        · go_simp; first | exact hK _ _ ((hC _ _ _ _).1 M_11111111110000) | exact ⟨trivial, hK _ _ ((hC _ _ _ _).1 M_11111111110000)⟩ | exact ⟨fun _ _ => trivial, hK _ _ ((hC _ _ _ _).1 M_11111111110000)⟩
        exact AllReadyIn.nil
      have M_11101111110000 : C 5 #[true, true, true, false, true, true, true, true, true, true, false, false, false, false] { tmps := #[.func (.yield l) #[] #[], .pointer (some ⟨Bs, 0, none⟩), .pointer (some ⟨W.heap.size, 0, none⟩), .pointer (some ⟨k, 0, none⟩), .string s, .func (.func 41) #[] #[.pointer (some ⟨W.heap.size + 1, 0, none⟩)], .agg #[.int .i64 x.val.1, .int .i64 x.val.2.1, .bool false], .pointer (some ⟨k, 2, none⟩), .bool false, .bool false, undef, undef, undef, undef, undef, undef, undef, undef, undef, undef, undef], defers := [] } W'.drew := by
        refine (hC _ _ _ _).2 (wpAnyIn_ready (rs := [3, 10]) (by kernel_rfl) (by simp) ?_)
        refine AllReadyIn.cons rfl (fun K hK => ?_) ?_
        · go_simp; first | exact hK _ _ ((hC _ _ _ _).1 M_11111111110000) | exact ⟨trivial, hK _ _ ((hC _ _ _ _).1 M_11111111110000)⟩ | exact ⟨fun _ _ => trivial, hK _ _ ((hC _ _ _ _).1 M_11111111110000)⟩
        refine AllReadyIn.cons rfl (fun K hK => ?_) ?_
        · go_simp; first | exact hK _ _ ((hC _ _ _ _).1 M_11101111111000) | exact ⟨trivial, hK _ _ ((hC _ _ _ _).1 M_11101111111000)⟩ | exact ⟨fun _ _ => trivial, hK _ _ ((hC _ _ _ _).1 M_11101111111000)⟩
        exact AllReadyIn.nil
      have M_11110111100000 : C 6 #[true, true, true, true, false, true, true, true, true, false, false, false, false, false] { tmps := #[.func (.yield l) #[] #[], .pointer (some ⟨Bs, 0, none⟩), .pointer (some ⟨W.heap.size, 0, none⟩), .pointer (some ⟨k, 0, none⟩), .string s, .func (.func 41) #[] #[.pointer (some ⟨W.heap.size + 1, 0, none⟩)], .agg #[.int .i64 x.val.1, .int .i64 x.val.2.1, .bool false], .pointer (some ⟨k, 2, none⟩), .bool false, .bool false, undef, undef, undef, undef, undef, undef, undef, undef, undef, undef, undef], defers := [] } W'.drew := by
        refine (hC _ _ _ _).2 (wpAnyIn_ready (rs := [4]) (by kernel_rfl) (by simp) ?_)
        refine AllReadyIn.cons rfl (fun K hK => ?_) ?_
        · go_simp; first | exact hK _ _ ((hC _ _ _ _).1 M_11111111100000) | exact ⟨trivial, hK _ _ ((hC _ _ _ _).1 M_11111111100000)⟩ | exact ⟨fun _ _ => trivial, hK _ _ ((hC _ _ _ _).1 M_11111111100000)⟩
        exact AllReadyIn.nil
      have M_11111101100000 : C 6 #[true, true, true, true, true, true, false, true, true, false, false, false, false, false] { tmps := #[.func (.yield l) #[] #[], .pointer (some ⟨Bs, 0, none⟩), .pointer (some ⟨W.heap.size, 0, none⟩), .pointer (some ⟨k, 0, none⟩), .string s, .func (.func 41) #[] #[.pointer (some ⟨W.heap.size + 1, 0, none⟩)], .agg #[.int .i64 x.val.1, .int .i64 x.val.2.1, .bool false], .pointer (some ⟨k, 2, none⟩), .bool false, .bool false, undef, undef, undef, undef, undef, undef, undef, undef, undef, undef, undef], defers := [] } W'.drew := by
        refine (hC _ _ _ _).2 (wpAnyIn_ready (rs := [6]) (by kernel_rfl) (by simp) ?_)
        refine AllReadyIn.cons rfl (fun K hK => ?_) ?_
        · go_simp; first | exact hK _ _ ((hC _ _ _ _).1 M_11111111100000) | exact ⟨trivial, hK _ _ ((hC _ _ _ _).1 M_11111111100000)⟩ | exact ⟨fun _ _ => trivial, hK _ _ ((hC _ _ _ _).1 M_11111111100000)⟩
        exact AllReadyIn.nil
      have M_11101111100000 : C 6 #[true, true, true, false, true, true, true, true, true, false, false, false, false, false] { tmps := #[.func (.yield l) #[] #[], .pointer (some ⟨Bs, 0, none⟩), .pointer (some ⟨W.heap.size, 0, none⟩), .pointer (some ⟨k, 0, none⟩), .string s, .func (.func 41) #[] #[.pointer (some ⟨W.heap.size + 1, 0, none⟩)], .agg #[.int .i64 x.val.1, .int .i64 x.val.2.1, .bool false], .pointer (some ⟨k, 2, none⟩), .bool false, .bool false, undef, undef, undef, undef, undef, undef, undef, undef, undef, undef, undef], defers := [] } W'.drew := by
        refine (hC _ _ _ _).2 (wpAnyIn_ready (rs := [3, 9]) (by kernel_rfl) (by simp) ?_)
        refine AllReadyIn.cons rfl (fun K hK => ?_) ?_
        · go_simp; first | exact hK _ _ ((hC _ _ _ _).1 M_11111111100000) | exact ⟨trivial, hK _ _ ((hC _ _ _ _).1 M_11111111100000)⟩ | exact ⟨fun _ _ => trivial, hK _ _ ((hC _ _ _ _).1 M_11111111100000)⟩
        refine AllReadyIn.cons rfl (fun K hK => ?_) ?_
        · go_simp; first | exact hK _ _ ((hC _ _ _ _).1 M_11101111110000) | exact ⟨trivial, hK _ _ ((hC _ _ _ _).1 M_11101111110000)⟩ | exact ⟨fun _ _ => trivial, hK _ _ ((hC _ _ _ _).1 M_11101111110000)⟩
        exact AllReadyIn.nil
      have M_11111111000000 : C 6 #[true, true, true, true, true, true, true, true, false, false, false, false, false, false] { tmps := #[.func (.yield l) #[] #[], .pointer (some ⟨Bs, 0, none⟩), .pointer (some ⟨W.heap.size, 0, none⟩), .pointer (some ⟨k, 0, none⟩), .string s, .func (.func 41) #[] #[.pointer (some ⟨W.heap.size + 1, 0, none⟩)], .agg #[.int .i64 x.val.1, .int .i64 x.val.2.1, .bool false], .pointer (some ⟨k, 2, none⟩), .bool false, .bool false, undef, undef, undef, undef, undef, undef, undef, undef, undef, undef, undef], defers := [] } W'.drew := by
        refine (hC _ _ _ _).2 (wpAnyIn_ready (rs := [8]) (by kernel_rfl) (by simp) ?_)
        refine AllReadyIn.cons rfl (fun K hK => ?_) ?_
        · go_simp; first | exact hK _ _ ((hC _ _ _ _).1 M_11111111100000) | exact ⟨trivial, hK _ _ ((hC _ _ _ _).1 M_11111111100000)⟩ | exact ⟨fun _ _ => trivial, hK _ _ ((hC _ _ _ _).1 M_11111111100000)⟩
        exact AllReadyIn.nil
      have M_11110101100000 : C 7 #[true, true, true, true, false, true, false, true, true, false, false, false, false, false] { tmps := #[.func (.yield l) #[] #[], .pointer (some ⟨Bs, 0, none⟩), .pointer (some ⟨W.heap.size, 0, none⟩), .pointer (some ⟨k, 0, none⟩), .string s, .func (.func 41) #[] #[.pointer (some ⟨W.heap.size + 1, 0, none⟩)], .agg #[.int .i64 x.val.1, .int .i64 x.val.2.1, .bool false], .pointer (some ⟨k, 2, none⟩), .bool false, .bool false, undef, undef, undef, undef, undef, undef, undef, undef, undef, undef, undef], defers := [] } W'.drew := by
        refine (hC _ _ _ _).2 (wpAnyIn_ready (rs := [4, 6]) (by kernel_rfl) (by simp) ?_)
        refine AllReadyIn.cons rfl (fun K hK => ?_) ?_
        · go_simp; first | exact hK _ _ ((hC _ _ _ _).1 M_11111101100000) | exact ⟨trivial, hK _ _ ((hC _ _ _ _).1 M_11111101100000)⟩ | exact ⟨fun _ _ => trivial, hK _ _ ((hC _ _ _ _).1 M_11111101100000)⟩
        refine AllReadyIn.cons rfl (fun K hK => ?_) ?_
        · go_simp; first | exact hK _ _ ((hC _ _ _ _).1 M_11110111100000) | exact ⟨trivial, hK _ _ ((hC _ _ _ _).1 M_11110111100000)⟩ | exact ⟨fun _ _ => trivial, hK _ _ ((hC _ _ _ _).1 M_11110111100000)⟩
        exact AllReadyIn.nil
      have M_11100111100000 : C 7 #[true, true, true, false, false, true, true, true, true, false, false, false, false, false] { tmps := #[.func (.yield l) #[] #[], .pointer (some ⟨Bs, 0, none⟩), .pointer (some ⟨W.heap.size, 0, none⟩), .pointer (some ⟨k, 0, none⟩), .string s, .func (.func 41) #[] #[.pointer (some ⟨W.heap.size + 1, 0, none⟩)], .agg #[.int .i64 x.val.1, .int .i64 x.val.2.1, .bool false], .pointer (some ⟨k, 2, none⟩), .bool false, .bool false, undef, undef, undef, undef, undef, undef, undef, undef, undef, undef, undef], defers := [] } W'.drew := by
        refine (hC _ _ _ _).2 (wpAnyIn_ready (rs := [3, 4]) (by kernel_rfl) (by simp) ?_)
        refine AllReadyIn.cons rfl (fun K hK => ?_) ?_
        · go_simp; first | exact hK _ _ ((hC _ _ _ _).1 M_11110111100000) | exact ⟨trivial, hK _ _ ((hC _ _ _ _).1 M_11110111100000)⟩ | exact ⟨fun _ _ => trivial, hK _ _ ((hC _ _ _ _).1 M_11110111100000)⟩
        refine AllReadyIn.cons rfl (fun K hK => ?_) ?_
        · go_simp; first | exact hK _ _ ((hC _ _ _ _).1 M_11101111100000) | exact ⟨trivial, hK _ _ ((hC _ _ _ _).1 M_11101111100000)⟩ | exact ⟨fun _ _ => trivial, hK _ _ ((hC _ _ _ _).1 M_11101111100000)⟩
        exact AllReadyIn.nil
      have M_11110111000000 : C 7 #[true, true, true, true, false, true, true, true, false, false, false, false, false, false] { tmps := #[.func (.yield l) #[] #[], .pointer (some ⟨Bs, 0, none⟩), .pointer (some ⟨W.heap.size, 0, none⟩), .pointer (some ⟨k, 0, none⟩), .string s, .func (.func 41) #[] #[.pointer (some ⟨W.heap.size + 1, 0, none⟩)], .agg #[.int .i64 x.val.1, .int .i64 x.val.2.1, .bool false], .pointer (some ⟨k, 2, none⟩), .bool false, .bool false, undef, undef, undef, undef, undef, undef, undef, undef, undef, undef, undef], defers := [] } W'.drew := by
        refine (hC _ _ _ _).2 (wpAnyIn_ready (rs := [4, 8]) (by kernel_rfl) (by simp) ?_)
        refine AllReadyIn.cons rfl (fun K hK => ?_) ?_
        · go_simp; first | exact hK _ _ ((hC _ _ _ _).1 M_11111111000000) | exact ⟨trivial, hK _ _ ((hC _ _ _ _).1 M_11111111000000)⟩ | exact ⟨fun _ _ => trivial, hK _ _ ((hC _ _ _ _).1 M_11111111000000)⟩
        refine AllReadyIn.cons rfl (fun K hK => ?_) ?_
        · go_simp; first | exact hK _ _ ((hC _ _ _ _).1 M_11110111100000) | exact ⟨trivial, hK _ _ ((hC _ _ _ _).1 M_11110111100000)⟩ | exact ⟨fun _ _ => trivial, hK _ _ ((hC _ _ _ _).1 M_11110111100000)⟩
        exact AllReadyIn.nil
      have M_11111001100000 : C 7 #[true, true, true, true, true, false, false, true, true, false, false, false, false, false] { tmps := #[.func (.yield l) #[] #[], .pointer (some ⟨Bs, 0, none⟩), .pointer (some ⟨W.heap.size, 0, none⟩), .pointer (some ⟨k, 0, none⟩), .string s, .func (.func 41) #[] #[.pointer (some ⟨W.heap.size + 1, 0, none⟩)], .agg #[.int .i64 x.val.1, .int .i64 x.val.2.1, .bool false], .pointer (some ⟨k, 2, none⟩), .bool false, .bool false, undef, undef, undef, undef, undef, undef, undef, undef, undef, undef, undef], defers := [] } W'.drew := by
        refine (hC _ _ _ _).2 (wpAnyIn_ready (rs := [5]) (by kernel_rfl) (by simp) ?_)
        refine AllReadyIn.cons rfl (fun K hK => ?_) ?_
        · go_simp; first | exact hK _ _ ((hC _ _ _ _).1 M_11111101100000) | exact ⟨trivial, hK _ _ ((hC _ _ _ _).1 M_11111101100000)⟩ | exact ⟨fun _ _ => trivial, hK _ _ ((hC _ _ _ _).1 M_11111101100000)⟩
        exact AllReadyIn.nil
      have M_11101111000000 : C 7 #[true, true, true, false, true, true, true, true, false, false, false, false, false, false] { tmps := #[.func (.yield l) #[] #[], .pointer (some ⟨Bs, 0, none⟩), .pointer (some ⟨W.heap.size, 0, none⟩), .pointer (some ⟨k, 0, none⟩), .string s, .func (.func 41) #[] #[.pointer (some ⟨W.heap.size + 1, 0, none⟩)], .agg #[.int .i64 x.val.1, .int .i64 x.val.2.1, .bool false], .pointer (some ⟨k, 2, none⟩), .bool false, .bool false, undef, undef, undef, undef, undef, undef, undef, undef, undef, undef, undef], defers := [] } W'.drew := by
        refine (hC _ _ _ _).2 (wpAnyIn_ready (rs := [3, 8]) (by kernel_rfl) (by simp) ?_)
        refine AllReadyIn.cons rfl (fun K hK => ?_) ?_
        · go_simp; first | exact hK _ _ ((hC _ _ _ _).1 M_11111111000000) | exact ⟨trivial, hK _ _ ((hC _ _ _ _).1 M_11111111000000)⟩ | exact ⟨fun _ _ => trivial, hK _ _ ((hC _ _ _ _).1 M_11111111000000)⟩
        refine AllReadyIn.cons rfl (fun K hK => ?_) ?_
        · go_simp; first | exact hK _ _ ((hC _ _ _ _).1 M_11101111100000) | exact ⟨trivial, hK _ _ ((hC _ _ _ _).1 M_11101111100000)⟩ | exact ⟨fun _ _ => trivial, hK _ _ ((hC _ _ _ _).1 M_11101111100000)⟩
        exact AllReadyIn.nil
      have M_11101101100000 : C 7 #[true, true, true, false, true, true, false, true, true, false, false, false, false, false] { tmps := #[.func (.yield l) #[] #[], .pointer (some ⟨Bs, 0, none⟩), .pointer (some ⟨W.heap.size, 0, none⟩), .pointer (some ⟨k, 0, none⟩), .string s, .func (.func 41) #[] #[.pointer (some ⟨W.heap.size + 1, 0, none⟩)], .agg #[.int .i64 x.val.1, .int .i64 x.val.2.1, .bool false], .pointer (some ⟨k, 2, none⟩), .bool false, .bool false, undef, undef, undef, undef, undef, undef, undef, undef, undef, undef, undef], defers := [] } W'.drew := by
        refine (hC _ _ _ _).2 (wpAnyIn_ready (rs := [3, 6]) (by kernel_rfl) (by simp) ?_)
        refine AllReadyIn.cons rfl (fun K hK => ?_) ?_
        · go_simp; first | exact hK _ _ ((hC _ _ _ _).1 M_11111101100000) | exact ⟨trivial, hK _ _ ((hC _ _ _ _).1 M_11111101100000)⟩ | exact ⟨fun _ _ => trivial, hK _ _ ((hC _ _ _ _).1 M_11111101100000)⟩
        refine AllReadyIn.cons rfl (fun K hK => ?_) ?_
        · go_simp; first | exact hK _ _ ((hC _ _ _ _).1 M_11101111100000) | exact ⟨trivial, hK _ _ ((hC _ _ _ _).1 M_11101111100000)⟩ | exact ⟨fun _ _ => trivial, hK _ _ ((hC _ _ _ _).1 M_11101111100000)⟩
        exact AllReadyIn.nil
      have M_11111110000000 : C 7 #[true, true, true, true, true, true, true, false, false, false, false, false, false, false] { tmps := #[.func (.yield l) #[] #[], .pointer (some ⟨Bs, 0, none⟩), .pointer (some ⟨W.heap.size, 0, none⟩), .pointer (some ⟨k, 0, none⟩), .string s, .func (.func 41) #[] #[.pointer (some ⟨W.heap.size + 1, 0, none⟩)], .agg #[.int .i64 x.val.1, .int .i64 x.val.2.1, .bool false], .pointer (some ⟨k, 2, none⟩), .bool false, .bool false, undef, undef, undef, undef, undef, undef, undef, undef, undef, undef, undef], defers := [] } W'.drew := by
        refine (hC _ _ _ _).2 (wpAnyIn_ready (rs := [7]) (by kernel_rfl) (by simp) ?_)
        refine AllReadyIn.cons rfl (fun K hK => ?_) ?_
        · go_simp; first | exact hK _ _ ((hC _ _ _ _).1 M_11111111000000) | exact ⟨trivial, hK _ _ ((hC _ _ _ _).1 M_11111111000000)⟩ | exact ⟨fun _ _ => trivial, hK _ _ ((hC _ _ _ _).1 M_11111111000000)⟩
        exact AllReadyIn.nil
      have M_11111101000000 : C 7 #[true, true, true, true, true, true, false, true, false, false, false, false, false, false] { tmps := #[.func (.yield l) #[] #[], .pointer (some ⟨Bs, 0, none⟩), .pointer (some ⟨W.heap.size, 0, none⟩), .pointer (some ⟨k, 0, none⟩), .string s, .func (.func 41) #[] #[.pointer (some ⟨W.heap.size + 1, 0, none⟩)], .agg #[.int .i64 x.val.1, .int .i64 x.val.2.1, .bool false], .pointer (some ⟨k, 2, none⟩), .bool false, .bool false, undef, undef, undef, undef, undef, undef, undef, undef, undef, undef, undef], defers := [] } W'.drew := by
        refine (hC _ _ _ _).2 (wpAnyIn_ready (rs := [6, 8]) (by kernel_rfl) (by simp) ?_)
        refine AllReadyIn.cons rfl (fun K hK => ?_) ?_
        · go_simp; first | exact hK _ _ ((hC _ _ _ _).1 M_11111111000000) | exact ⟨trivial, hK _ _ ((hC _ _ _ _).1 M_11111111000000)⟩ | exact ⟨fun _ _ => trivial, hK _ _ ((hC _ _ _ _).1 M_11111111000000)⟩
        refine AllReadyIn.cons rfl (fun K hK => ?_) ?_
        · go_simp; first | exact hK _ _ ((hC _ _ _ _).1 M_11111101100000) | exact ⟨trivial, hK _ _ ((hC _ _ _ _).1 M_11111101100000)⟩ | exact ⟨fun _ _ => trivial, hK _ _ ((hC _ _ _ _).1 M_11111101100000)⟩
        exact AllReadyIn.nil
      have M_11101110000000 : C 8 #[true, true, true, false, true, true, true, false, false, false, false, false, false, false] { tmps := #[.func (.yield l) #[] #[], .pointer (some ⟨Bs, 0, none⟩), .pointer (some ⟨W.heap.size, 0, none⟩), .pointer (some ⟨k, 0, none⟩), .string s, .func (.func 41) #[] #[.pointer (some ⟨W.heap.size + 1, 0, none⟩)], .agg #[.int .i64 x.val.1, .int .i64 x.val.2.1, .bool false], .pointer (some ⟨k, 2, none⟩), .bool false, .bool false, undef, undef, undef, undef, undef, undef, undef, undef, undef, undef, undef], defers := [] } W'.drew := by
        refine (hC _ _ _ _).2 (wpAnyIn_ready (rs := [3, 7]) (by kernel_rfl) (by simp) ?_)
        refine AllReadyIn.cons rfl (fun K hK => ?_) ?_
        · go_simp; first | exact hK _ _ ((hC _ _ _ _).1 M_11111110000000) | exact ⟨trivial, hK _ _ ((hC _ _ _ _).1 M_11111110000000)⟩ | exact ⟨fun _ _ => trivial, hK _ _ ((hC _ _ _ _).1 M_11111110000000)⟩
        refine AllReadyIn.cons rfl (fun K hK => ?_) ?_
        · go_simp; first | exact hK _ _ ((hC _ _ _ _).1 M_11101111000000) | exact ⟨trivial, hK _ _ ((hC _ _ _ _).1 M_11101111000000)⟩ | exact ⟨fun _ _ => trivial, hK _ _ ((hC _ _ _ _).1 M_11101111000000)⟩
        exact AllReadyIn.nil
      have M_11110001100000 : C 8 #[true, true, true, true, false, false, false, true, true, false, false, false, false, false] { tmps := #[.func (.yield l) #[] #[], .pointer (some ⟨Bs, 0, none⟩), .pointer (some ⟨W.heap.size, 0, none⟩), .pointer (some ⟨k, 0, none⟩), .string s, .func (.func 41) #[] #[.pointer (some ⟨W.heap.size + 1, 0, none⟩)], .agg #[.int .i64 x.val.1, .int .i64 x.val.2.1, .bool false], .pointer (some ⟨k, 2, none⟩), .bool false, .bool false, undef, undef, undef, undef, undef, undef, undef, undef, undef, undef, undef], defers := [] } W'.drew := by
        refine (hC _ _ _ _).2 (wpAnyIn_ready (rs := [4, 5]) (by kernel_rfl) (by simp) ?_)
        refine AllReadyIn.cons rfl (fun K hK => ?_) ?_
        · go_simp; first | exact hK _ _ ((hC _ _ _ _).1 M_11111001100000) | exact ⟨trivial, hK _ _ ((hC _ _ _ _).1 M_11111001100000)⟩ | exact ⟨fun _ _ => trivial, hK _ _ ((hC _ _ _ _).1 M_11111001100000)⟩
        refine AllReadyIn.cons rfl (fun K hK => ?_) ?_
        · go_simp; first | exact hK _ _ ((hC _ _ _ _).1 M_11110101100000) | exact ⟨trivial, hK _ _ ((hC _ _ _ _).1 M_11110101100000)⟩ | exact ⟨fun _ _ => trivial, hK _ _ ((hC _ _ _ _).1 M_11110101100000)⟩
        exact AllReadyIn.nil
      have M_11101001100000 : C 8 #[true, true, true, false, true, false, false, true, true, false, false, false, false, false] { tmps := #[.func (.yield l) #[] #[], .pointer (some ⟨Bs, 0, none⟩), .pointer (some ⟨W.heap.size, 0, none⟩), .pointer (some ⟨k, 0, none⟩), .string s, .func (.func 41) #[] #[.pointer (some ⟨W.heap.size + 1, 0, none⟩)], .agg #[.int .i64 x.val.1, .int .i64 x.val.2.1, .bool false], .pointer (some ⟨k, 2, none⟩), .bool false, .bool false, undef, undef, undef, undef, undef, undef, undef, undef, undef, undef, undef], defers := [] } W'.drew := by
        refine (hC _ _ _ _).2 (wpAnyIn_ready (rs := [3, 5]) (by kernel_rfl) (by simp) ?_)
        refine AllReadyIn.cons rfl (fun K hK => ?_) ?_
        · go_simp; first | exact hK _ _ ((hC _ _ _ _).1 M_11111001100000) | exact ⟨trivial, hK _ _ ((hC _ _ _ _).1 M_11111001100000)⟩ | exact ⟨fun _ _ => trivial, hK _ _ ((hC _ _ _ _).1 M_11111001100000)⟩
        refine AllReadyIn.cons rfl (fun K hK => ?_) ?_
        · go_simp; first | exact hK _ _ ((hC _ _ _ _).1 M_11101101100000) | exact ⟨trivial, hK _ _ ((hC _ _ _ _).1 M_11101101100000)⟩ | exact ⟨fun _ _ => trivial, hK _ _ ((hC _ _ _ _).1 M_11101101100000)⟩
        exact AllReadyIn.nil
      have M_11100101100000 : C 8 #[true, true, true, false, false, true, false, true, true, false, false, false, false, false] { tmps := #[.func (.yield l) #[] #[], .pointer (some ⟨Bs, 0, none⟩), .pointer (some ⟨W.heap.size, 0, none⟩), .pointer (some ⟨k, 0, none⟩), .string s, .func (.func 41) #[] #[.pointer (some ⟨W.heap.size + 1, 0, none⟩)], .agg #[.int .i64 x.val.1, .int .i64 x.val.2.1, .bool false], .pointer (some ⟨k, 2, none⟩), .bool false, .bool false, undef, undef, undef, undef, undef, undef, undef, undef, undef, undef, undef], defers := [] } W'.drew := by
        refine (hC _ _ _ _).2 (wpAnyIn_ready (rs := [3, 4, 6]) (by kernel_rfl) (by simp) ?_)
        refine AllReadyIn.cons rfl (fun K hK => ?_) ?_
        · go_simp; first | exact hK _ _ ((hC _ _ _ _).1 M_11110101100000) | exact ⟨trivial, hK _ _ ((hC _ _ _ _).1 M_11110101100000)⟩ | exact ⟨fun _ _ => trivial, hK _ _ ((hC _ _ _ _).1 M_11110101100000)⟩
        refine AllReadyIn.cons rfl (fun K hK => ?_) ?_
        · go_simp; first | exact hK _ _ ((hC _ _ _ _).1 M_11101101100000) | exact ⟨trivial, hK _ _ ((hC _ _ _ _).1 M_11101101100000)⟩ | exact ⟨fun _ _ => trivial, hK _ _ ((hC _ _ _ _).1 M_11101101100000)⟩
        refine AllReadyIn.cons rfl (fun K hK => ?_) ?_
        · go_simp; first | exact hK _ _ ((hC _ _ _ _).1 M_11100111100000) | exact ⟨trivial, hK _ _ ((hC _ _ _ _).1 M_11100111100000)⟩ | exact ⟨fun _ _ => trivial, hK _ _ ((hC _ _ _ _).1 M_11100111100000)⟩
        exact AllReadyIn.nil
      have M_11110110000000 : C 8 #[true, true, true, true, false, true, true, false, false, false, false, false, false, false] { tmps := #[.func (.yield l) #[] #[], .pointer (some ⟨Bs, 0, none⟩), .pointer (some ⟨W.heap.size, 0, none⟩), .pointer (some ⟨k, 0, none⟩), .string s, .func (.func 41) #[] #[.pointer (some ⟨W.heap.size + 1, 0, none⟩)], .agg #[.int .i64 x.val.1, .int .i64 x.val.2.1, .bool false], .pointer (some ⟨k, 2, none⟩), .bool false, .bool false, undef, undef, undef, undef, undef, undef, undef, undef, undef, undef, undef], defers := [] } W'.drew := by
        refine (hC _ _ _ _).2 (wpAnyIn_ready (rs := [4, 7]) (by kernel_rfl) (by simp) ?_)
        refine AllReadyIn.cons rfl (fun K hK => ?_) ?_
        · go_simp; first | exact hK _ _ ((hC _ _ _ _).1 M_11111110000000) | exact ⟨trivial, hK _ _ ((hC _ _ _ _).1 M_11111110000000)⟩ | exact ⟨fun _ _ => trivial, hK _ _ ((hC _ _ _ _).1 M_11111110000000)⟩
        refine AllReadyIn.cons rfl (fun K hK => ?_) ?_
        · go_simp; first | exact hK _ _ ((hC _ _ _ _).1 M_11110111000000) | exact ⟨trivial, hK _ _ ((hC _ _ _ _).1 M_11110111000000)⟩ | exact ⟨fun _ _ => trivial, hK _ _ ((hC _ _ _ _).1 M_11110111000000)⟩
        exact AllReadyIn.nil
      have M_11111001000000 : C 8 #[true, true, true, true, true, false, false, true, false, false, false, false, false, false] { tmps := #[.func (.yield l) #[] #[], .pointer (some ⟨Bs, 0, none⟩), .pointer (some ⟨W.heap.size, 0, none⟩), .pointer (some ⟨k, 0, none⟩), .string s, .func (.func 41) #[] #[.pointer (some ⟨W.heap.size + 1, 0, none⟩)], .agg #[.int .i64 x.val.1, .int .i64 x.val.2.1, .bool false], .pointer (some ⟨k, 2, none⟩), .bool false, .bool false, undef, undef, undef, undef, undef, undef, undef, undef, undef, undef, undef], defers := [] } W'.drew := by
        refine (hC _ _ _ _).2 (wpAnyIn_ready (rs := [5, 8]) (by kernel_rfl) (by simp) ?_)
        refine AllReadyIn.cons rfl (fun K hK => ?_) ?_
        · go_simp; first | exact hK _ _ ((hC _ _ _ _).1 M_11111101000000) | exact ⟨trivial, hK _ _ ((hC _ _ _ _).1 M_11111101000000)⟩ | exact ⟨fun _ _ => trivial, hK _ _ ((hC _ _ _ _).1 M_11111101000000)⟩
        refine AllReadyIn.cons rfl (fun K hK => ?_) ?_
        · go_simp; first | exact hK _ _ ((hC _ _ _ _).1 M_11111001100000) | exact ⟨trivial, hK _ _ ((hC _ _ _ _).1 M_11111001100000)⟩ | exact ⟨fun _ _ => trivial, hK _ _ ((hC _ _ _ _).1 M_11111001100000)⟩
        exact AllReadyIn.nil
      have M_11100111000000 : C 8 #[true, true, true, false, false, true, true, true, false, false, false, false, false, false] { tmps := #[.func (.yield l) #[] #[], .pointer (some ⟨Bs, 0, none⟩), .pointer (some ⟨W.heap.size, 0, none⟩), .pointer (some ⟨k, 0, none⟩), .string s, .func (.func 41) #[] #[.pointer (some ⟨W.heap.size + 1, 0, none⟩)], .agg #[.int .i64 x.val.1, .int .i64 x.val.2.1, .bool false], .pointer (some ⟨k, 2, none⟩), .bool false, .bool false, undef, undef, undef, undef, undef, undef, undef, undef, undef, undef, undef], defers := [] } W'.drew := by
        refine (hC _ _ _ _).2 (wpAnyIn_ready (rs := [3, 4, 8]) (by kernel_rfl) (by simp) ?_)
        refine AllReadyIn.cons rfl (fun K hK => ?_) ?_
        · go_simp; first | exact hK _ _ ((hC _ _ _ _).1 M_11110111000000) | exact ⟨trivial, hK _ _ ((hC _ _ _ _).1 M_11110111000000)⟩ | exact ⟨fun _ _ => trivial, hK _ _ ((hC _ _ _ _).1 M_11110111000000)⟩
        refine AllReadyIn.cons rfl (fun K hK => ?_) ?_
        · go_simp; first | exact hK _ _ ((hC _ _ _ _).1 M_11101111000000) | exact ⟨trivial, hK _ _ ((hC _ _ _ _).1 M_11101111000000)⟩ | exact ⟨fun _ _ => trivial, hK _ _ ((hC _ _ _ _).1 M_11101111000000)⟩
        refine AllReadyIn.cons rfl (fun K hK => ?_) ?_
        · go_simp; first | exact hK _ _ ((hC _ _ _ _).1 M_11100111100000) | exact ⟨trivial, hK _ _ ((hC _ _ _ _).1 M_11100111100000)⟩ | exact ⟨fun _ _ => trivial, hK _ _ ((hC _ _ _ _).1 M_11100111100000)⟩
        exact AllReadyIn.nil
      have M_11110101000000 : C 8 #[true, true, true, true, false, true, false, true, false, false, false, false, false, false] { tmps := #[.func (.yield l) #[] #[], .pointer (some ⟨Bs, 0, none⟩), .pointer (some ⟨W.heap.size, 0, none⟩), .pointer (some ⟨k, 0, none⟩), .string s, .func (.func 41) #[] #[.pointer (some ⟨W.heap.size + 1, 0, none⟩)], .agg #[.int .i64 x.val.1, .int .i64 x.val.2.1, .bool false], .pointer (some ⟨k, 2, none⟩), .bool false, .bool false, undef, undef, undef, undef, undef, undef, undef, undef, undef, undef, undef], defers := [] } W'.drew := by
        refine (hC _ _ _ _).2 (wpAnyIn_ready (rs := [4, 6, 8]) (by kernel_rfl) (by simp) ?_)
        refine AllReadyIn.cons rfl (fun K hK => ?_) ?_
        · go_simp; first | exact hK _ _ ((hC _ _ _ _).1 M_11111101000000) | exact ⟨trivial, hK _ _ ((hC _ _ _ _).1 M_11111101000000)⟩ | exact ⟨fun _ _ => trivial, hK _ _ ((hC _ _ _ _).1 M_11111101000000)⟩
        refine AllReadyIn.cons rfl (fun K hK => ?_) ?_
        · go_simp; first | exact hK _ _ ((hC _ _ _ _).1 M_11110111000000) | exact ⟨trivial, hK _ _ ((hC _ _ _ _).1 M_11110111000000)⟩ | exact ⟨fun _ _ => trivial, hK _ _ ((hC _ _ _ _).1 M_11110111000000)⟩
        refine AllReadyIn.cons rfl (fun K hK => ?_) ?_
        · go_simp; first | exact hK _ _ ((hC _ _ _ _).1 M_11110101100000) | exact ⟨trivial, hK _ _ ((hC _ _ _ _).1 M_11110101100000)⟩ | exact ⟨fun _ _ => trivial, hK _ _ ((hC _ _ _ _).1 M_11110101100000)⟩
        exact AllReadyIn.nil
      have M_11111100000000 : C 8 #[true, true, true, true, true, true, false, false, false, false, false, false, false, false] { tmps := #[.func (.yield l) #[] #[], .pointer (some ⟨Bs, 0, none⟩), .pointer (some ⟨W.heap.size, 0, none⟩), .pointer (some ⟨k, 0, none⟩), .string s, .func (.func 41) #[] #[.pointer (some ⟨W.heap.size + 1, 0, none⟩)], .agg #[.int .i64 x.val.1, .int .i64 x.val.2.1, .bool false], .pointer (some ⟨k, 2, none⟩), .bool false, .bool false, undef, undef, undef, undef, undef, undef, undef, undef, undef, undef, undef], defers := [] } W'.drew := by
        refine (hC _ _ _ _).2 (wpAnyIn_ready (rs := [6, 7]) (by kernel_rfl) (by simp) ?_)
        refine AllReadyIn.cons rfl (fun K hK => ?_) ?_
        · go_simp; first | exact hK _ _ ((hC _ _ _ _).1 M_11111110000000) | exact ⟨trivial, hK _ _ ((hC _ _ _ _).1 M_11111110000000)⟩ | exact ⟨fun _ _ => trivial, hK _ _ ((hC _ _ _ _).1 M_11111110000000)⟩
        refine AllReadyIn.cons rfl (fun K hK => ?_) ?_
        · go_simp; first | exact hK _ _ ((hC _ _ _ _).1 M_11111101000000) | exact ⟨trivial, hK _ _ ((hC _ _ _ _).1 M_11111101000000)⟩ | exact ⟨fun _ _ => trivial, hK _ _ ((hC _ _ _ _).1 M_11111101000000)⟩
        exact AllReadyIn.nil
      have M_11101101000000 : C 8 #[true, true, true, false, true, true, false, true, false, false, false, false, false, false] { tmps := #[.func (.yield l) #[] #[], .pointer (some ⟨Bs, 0, none⟩), .pointer (some ⟨W.heap.size, 0, none⟩), .pointer (some ⟨k, 0, none⟩), .string s, .func (.func 41) #[] #[.pointer (some ⟨W.heap.size + 1, 0, none⟩)], .agg #[.int .i64 x.val.1, .int .i64 x.val.2.1, .bool false], .pointer (some ⟨k, 2, none⟩), .bool false, .bool false, undef, undef, undef, undef, undef, undef, undef, undef, undef, undef, undef], defers := [] } W'.drew := by
        refine (hC _ _ _ _).2 (wpAnyIn_ready (rs := [3, 6, 8]) (by kernel_rfl) (by simp) ?_)
        refine AllReadyIn.cons rfl (fun K hK => ?_) ?_
        · go_simp; first | exact hK _ _ ((hC _ _ _ _).1 M_11111101000000) | exact ⟨trivial, hK _ _ ((hC _ _ _ _).1 M_11111101000000)⟩ | exact ⟨fun _ _ => trivial, hK _ _ ((hC _ _ _ _).1 M_11111101000000)⟩
        refine AllReadyIn.cons rfl (fun K hK => ?_) ?_
        · go_simp; first | exact hK _ _ ((hC _ _ _ _).1 M_11101111000000) | exact ⟨trivial, hK _ _ ((hC _ _ _ _).1 M_11101111000000)⟩ | exact ⟨fun _ _ => trivial, hK _ _ ((hC _ _ _ _).1 M_11101111000000)⟩
        refine AllReadyIn.cons rfl (fun K hK => ?_) ?_
        · go_simp; first | exact hK _ _ ((hC _ _ _ _).1 M_11101101100000) | exact ⟨trivial, hK _ _ ((hC _ _ _ _).1 M_11101101100000)⟩ | exact ⟨fun _ _ => trivial, hK _ _ ((hC _ _ _ _).1 M_11101101100000)⟩
        exact AllReadyIn.nil
      have M_11110001000000 : C 9 #[true, true, true, true, false, false, false, true, false, false, false, false, false, false] { tmps := #[.func (.yield l) #[] #[], .pointer (some ⟨Bs, 0, none⟩), .pointer (some ⟨W.heap.size, 0, none⟩), .pointer (some ⟨k, 0, none⟩), .string s, .func (.func 41) #[] #[.pointer (some ⟨W.heap.size + 1, 0, none⟩)], .agg #[.int .i64 x.val.1, .int .i64 x.val.2.1, .bool false], .pointer (some ⟨k, 2, none⟩), .bool false, .bool false, undef, undef, undef, undef, undef, undef, undef, undef, undef, undef, undef], defers := [] } W'.drew := by
        refine (hC _ _ _ _).2 (wpAnyIn_ready (rs := [4, 5, 8]) (by kernel_rfl) (by simp) ?_)
        refine AllReadyIn.cons rfl (fun K hK => ?_) ?_
        · go_simp; first | exact hK _ _ ((hC _ _ _ _).1 M_11111001000000) | exact ⟨trivial, hK _ _ ((hC _ _ _ _).1 M_11111001000000)⟩ | exact ⟨fun _ _ => trivial, hK _ _ ((hC _ _ _ _).1 M_11111001000000)⟩
        refine AllReadyIn.cons rfl (fun K hK => ?_) ?_
        · go_simp; first | exact hK _ _ ((hC _ _ _ _).1 M_11110101000000) | exact ⟨trivial, hK _ _ ((hC _ _ _ _).1 M_11110101000000)⟩ | exact ⟨fun _ _ => trivial, hK _ _ ((hC _ _ _ _).1 M_11110101000000)⟩
        refine AllReadyIn.cons rfl (fun K hK => ?_) ?_
        · go_simp; first | exact hK _ _ ((hC _ _ _ _).1 M_11110001100000) | exact ⟨trivial, hK _ _ ((hC _ _ _ _).1 M_11110001100000)⟩ | exact ⟨fun _ _ => trivial, hK _ _ ((hC _ _ _ _).1 M_11110001100000)⟩
        exact AllReadyIn.nil
      have M_11100110000000 : C 9 #[true, true, true, false, false, true, true, false, false, false, false, false, false, false] { tmps := #[.func (.yield l) #[] #[], .pointer (some ⟨Bs, 0, none⟩), .pointer (some ⟨W.heap.size, 0, none⟩), .pointer (some ⟨k, 0, none⟩), .string s, .func (.func 41) #[] #[.pointer (some ⟨W.heap.size + 1, 0, none⟩)], .agg #[.int .i64 x.val.1, .int .i64 x.val.2.1, .bool false], .pointer (some ⟨k, 2, none⟩), .bool false, .bool false, undef, undef, undef, undef, undef, undef, undef, undef, undef, undef, undef], defers := [] } W'.drew := by
        refine (hC _ _ _ _).2 (wpAnyIn_ready (rs := [3, 4, 7]) (by kernel_rfl) (by simp) ?_)
        refine AllReadyIn.cons rfl (fun K hK => ?_) ?_
        · go_simp; first | exact hK _ _ ((hC _ _ _ _).1 M_11110110000000) | exact ⟨trivial, hK _ _ ((hC _ _ _ _).1 M_11110110000000)⟩ | exact ⟨fun _ _ => trivial, hK _ _ ((hC _ _ _ _).1 M_11110110000000)⟩
        refine AllReadyIn.cons rfl (fun K hK => ?_) ?_
        · go_simp; first | exact hK _ _ ((hC _ _ _ _).1 M_11101110000000) | exact ⟨trivial, hK _ _ ((hC _ _ _ _).1 M_11101110000000)⟩ | exact ⟨fun _ _ => trivial, hK _ _ ((hC _ _ _ _).1 M_11101110000000)⟩
        refine AllReadyIn.cons rfl (fun K hK => ?_) ?_
        · go_simp; first | exact hK _ _ ((hC _ _ _ _).1 M_11100111000000) | exact ⟨trivial, hK _ _ ((hC _ _ _ _).1 M_11100111000000)⟩ | exact ⟨fun _ _ => trivial, hK _ _ ((hC _ _ _ _).1 M_11100111000000)⟩
        exact AllReadyIn.nil
      have M_11100001100000 : C 9 #[true, true, true, false, false, false, false, true, true, false, false, false, false, false] { tmps := #[.func (.yield l) #[] #[], .pointer (some ⟨Bs, 0, none⟩), .pointer (some ⟨W.heap.size, 0, none⟩), .pointer (some ⟨k, 0, none⟩), .string s, .func (.func 41) #[] #[.pointer (some ⟨W.heap.size + 1, 0, none⟩)], .agg #[.int .i64 x.val.1, .int .i64 x.val.2.1, .bool false], .pointer (some ⟨k, 2, none⟩), .bool false, .bool false, undef, undef, undef, undef, undef, undef, undef, undef, undef, undef, undef], defers := [] } W'.drew := by
        refine (hC _ _ _ _).2 (wpAnyIn_ready (rs := [3, 4, 5]) (by kernel_rfl) (by simp) ?_)
        refine AllReadyIn.cons rfl (fun K hK => ?_) ?_
        · go_simp; first | exact hK _ _ ((hC _ _ _ _).1 M_11110001100000) | exact ⟨trivial, hK _ _ ((hC _ _ _ _).1 M_11110001100000)⟩ | exact ⟨fun _ _ => trivial, hK _ _ ((hC _ _ _ _).1 M_11110001100000)⟩
        refine AllReadyIn.cons rfl (fun K hK => ?_) ?_
        · go_simp; first | exact hK _ _ ((hC _ _ _ _).1 M_11101001100000) | exact ⟨trivial, hK _ _ ((hC _ _ _ _).1 M_11101001100000)⟩ | exact ⟨fun _ _ => trivial, hK _ _ ((hC _ _ _ _).1 M_11101001100000)⟩
        refine AllReadyIn.cons rfl (fun K hK => ?_) ?_
        · go_simp; first | exact hK _ _ ((hC _ _ _ _).1 M_11100101100000) | exact ⟨trivial, hK _ _ ((hC _ _ _ _).1 M_11100101100000)⟩ | exact ⟨fun _ _ => trivial, hK _ _ ((hC _ _ _ _).1 M_11100101100000)⟩
        exact AllReadyIn.nil
      have M_11111000000000 : C 9 #[true, true, true, true, true, false, false, false, false, false, false, false, false, false] { tmps := #[.func (.yield l) #[] #[], .pointer (some ⟨Bs, 0, none⟩), .pointer (some ⟨W.heap.size, 0, none⟩), .pointer (some ⟨k, 0, none⟩), .string s, .func (.func 41) #[] #[.pointer (some ⟨W.heap.size + 1, 0, none⟩)], .agg #[.int .i64 x.val.1, .int .i64 x.val.2.1, .bool false], .pointer (some ⟨k, 2, none⟩), .bool false, .bool false, undef, undef, undef, undef, undef, undef, undef, undef, undef, undef, undef], defers := [] } W'.drew := by
        refine (hC _ _ _ _).2 (wpAnyIn_ready (rs := [5, 7]) (by kernel_rfl) (by simp) ?_)
        refine AllReadyIn.cons rfl (fun K hK => ?_) ?_
        · go_simp; first | exact hK _ _ ((hC _ _ _ _).1 M_11111100000000) | exact ⟨trivial, hK _ _ ((hC _ _ _ _).1 M_11111100000000)⟩ | exact ⟨fun _ _ => trivial, hK _ _ ((hC _ _ _ _).1 M_11111100000000)⟩
        refine AllReadyIn.cons rfl (fun K hK => ?_) ?_
        · go_simp; first | exact hK _ _ ((hC _ _ _ _).1 M_11111001000000) | exact ⟨trivial, hK _ _ ((hC _ _ _ _).1 M_11111001000000)⟩ | exact ⟨fun _ _ => trivial, hK _ _ ((hC _ _ _ _).1 M_11111001000000)⟩
        exact AllReadyIn.nil
      have M_11101100000000 : C 9 #[true, true, true, false, true, true, false, false, false, false, false, false, false, false] { tmps := #[.func (.yield l) #[] #[], .pointer (some ⟨Bs, 0, none⟩), .pointer (some ⟨W.heap.size, 0, none⟩), .pointer (some ⟨k, 0, none⟩), .string s, .func (.func 41) #[] #[.pointer (some ⟨W.heap.size + 1, 0, none⟩)], .agg #[.int .i64 x.val.1, .int .i64 x.val.2.1, .bool false], .pointer (some ⟨k, 2, none⟩), .bool false, .bool false, undef, undef, undef, undef, undef, undef, undef, undef, undef, undef, undef], defers := [] } W'.drew := by
        refine (hC _ _ _ _).2 (wpAnyIn_ready (rs := [3, 6, 7]) (by kernel_rfl) (by simp) ?_)
        refine AllReadyIn.cons rfl (fun K hK => ?_) ?_
        · go_simp; first | exact hK _ _ ((hC _ _ _ _).1 M_11111100000000) | exact ⟨trivial, hK _ _ ((hC _ _ _ _).1 M_11111100000000)⟩ | exact ⟨fun _ _ => trivial, hK _ _ ((hC _ _ _ _).1 M_11111100000000)⟩
        refine AllReadyIn.cons rfl (fun K hK => ?_) ?_
        · go_simp; first | exact hK _ _ ((hC _ _ _ _).1 M_11101110000000) | exact ⟨trivial, hK _ _ ((hC _ _ _ _).1 M_11101110000000)⟩ | exact ⟨fun _ _ => trivial, hK _ _ ((hC _ _ _ _).1 M_11101110000000)⟩
        refine AllReadyIn.cons rfl (fun K hK => ?_) ?_
        · go_simp; first | exact hK _ _ ((hC _ _ _ _).1 M_11101101000000) | exact ⟨trivial, hK _ _ ((hC _ _ _ _).1 M_11101101000000)⟩ | exact ⟨fun _ _ => trivial, hK _ _ ((hC _ _ _ _).1 M_11101101000000)⟩
        exact AllReadyIn.nil
      have M_11100101000000 : C 9 #[true, true, true, false, false, true, false, true, false, false, false, false, false, false] { tmps := #[.func (.yield l) #[] #[], .pointer (some ⟨Bs, 0, none⟩), .pointer (some ⟨W.heap.size, 0, none⟩), .pointer (some ⟨k, 0, none⟩), .string s, .func (.func 41) #[] #[.pointer (some ⟨W.heap.size + 1, 0, none⟩)], .agg #[.int .i64 x.val.1, .int .i64 x.val.2.1, .bool false], .pointer (some ⟨k, 2, none⟩), .bool false, .bool false, undef, undef, undef, undef, undef, undef, undef, undef, undef, undef, undef], defers := [] } W'.drew := by
        refine (hC _ _ _ _).2 (wpAnyIn_ready (rs := [3, 4, 6, 8]) (by kernel_rfl) (by simp) ?_)
        refine AllReadyIn.cons rfl (fun K hK => ?_) ?_
        · go_simp; first | exact hK _ _ ((hC _ _ _ _).1 M_11110101000000) | exact ⟨trivial, hK _ _ ((hC _ _ _ _).1 M_11110101000000)⟩ | exact ⟨fun _ _ => trivial, hK _ _ ((hC _ _ _ _).1 M_11110101000000)⟩
        refine AllReadyIn.cons rfl (fun K hK => ?_) ?_
        · go_simp; first | exact hK _ _ ((hC _ _ _ _).1 M_11101101000000) | exact ⟨trivial, hK _ _ ((hC _ _ _ _).1 M_11101101000000)⟩ | exact ⟨fun _ _ => trivial, hK _ _ ((hC _ _ _ _).1 M_11101101000000)⟩
        refine AllReadyIn.cons rfl (fun K hK => ?_) ?_
        · go_simp; first | exact hK _ _ ((hC _ _ _ _).1 M_11100111000000) | exact ⟨trivial, hK _ _ ((hC _ _ _ _).1 M_11100111000000)⟩ | exact ⟨fun _ _ => trivial, hK _ _ ((hC _ _ _ _).1 M_11100111000000)⟩
        refine AllReadyIn.cons rfl (fun K hK => ?_) ?_
        · go_simp; first | exact hK _ _ ((hC _ _ _ _).1 M_11100101100000) | exact ⟨trivial, hK _ _ ((hC _ _ _ _).1 M_11100101100000)⟩ | exact ⟨fun _ _ => trivial, hK _ _ ((hC _ _ _ _).1 M_11100101100000)⟩
        exact AllReadyIn.nil
      have M_11101001000000 : C 9 #[true, true, true, false, true, false, false, true, false, false, false, false, false, false] { tmps := #[.func (.yield l) #[] #[], .pointer (some ⟨Bs, 0, none⟩), .pointer (some ⟨W.heap.size, 0, none⟩), .pointer (some ⟨k, 0, none⟩), .string s, .func (.func 41) #[] #[.pointer (some ⟨W.heap.size + 1, 0, none⟩)], .agg #[.int .i64 x.val.1, .int .i64 x.val.2.1, .bool false], .pointer (some ⟨k, 2, none⟩), .bool false, .bool false, undef, undef, undef, undef, undef, undef, undef, undef, undef, undef, undef], defers := [] } W'.drew := by
        refine (hC _ _ _ _).2 (wpAnyIn_ready (rs := [3, 5, 8]) (by kernel_rfl) (by simp) ?_)
        refine AllReadyIn.cons rfl (fun K hK => ?_) ?_
        · go_simp; first | exact hK _ _ ((hC _ _ _ _).1 M_11111001000000) | exact ⟨trivial, hK _ _ ((hC _ _ _ _).1 M_11111001000000)⟩ | exact ⟨fun _ _ => trivial, hK _ _ ((hC _ _ _ _).1 M_11111001000000)⟩
        refine AllReadyIn.cons rfl (fun K hK => ?_) ?_
        · go_simp; first | exact hK _ _ ((hC _ _ _ _).1 M_11101101000000) | exact ⟨trivial, hK _ _ ((hC _ _ _ _).1 M_11101101000000)⟩ | exact ⟨fun _ _ => trivial, hK _ _ ((hC _ _ _ _).1 M_11101101000000)⟩
        refine AllReadyIn.cons rfl (fun K hK => ?_) ?_
        · go_simp; first | exact hK _ _ ((hC _ _ _ _).1 M_11101001100000) | exact ⟨trivial, hK _ _ ((hC _ _ _ _).1 M_11101001100000)⟩ | exact ⟨fun _ _ => trivial, hK _ _ ((hC _ _ _ _).1 M_11101001100000)⟩
        exact AllReadyIn.nil
      have M_11110100000000 : C 9 #[true, true, true, true, false, true, false, false, false, false, false, false, false, false] { tmps := #[.func (.yield l) #[] #[], .pointer (some ⟨Bs, 0, none⟩), .pointer (some ⟨W.heap.size, 0, none⟩), .pointer (some ⟨k, 0, none⟩), .string s, .func (.func 41) #[] #[.pointer (some ⟨W.heap.size + 1, 0, none⟩)], .agg #[.int .i64 x.val.1, .int .i64 x.val.2.1, .bool false], .pointer (some ⟨k, 2, none⟩), .bool false, .bool false, undef, undef, undef, undef, undef, undef, undef, undef, undef, undef, undef], defers := [] } W'.drew := by
        refine (hC _ _ _ _).2 (wpAnyIn_ready (rs := [4, 6, 7]) (by kernel_rfl) (by simp) ?_)
        refine AllReadyIn.cons rfl (fun K hK => ?_) ?_
        · go_simp; first | exact hK _ _ ((hC _ _ _ _).1 M_11111100000000) | exact ⟨trivial, hK _ _ ((hC _ _ _ _).1 M_11111100000000)⟩ | exact ⟨fun _ _ => trivial, hK _ _ ((hC _ _ _ _).1 M_11111100000000)⟩
        refine AllReadyIn.cons rfl (fun K hK => ?_) ?_
        · go_simp; first | exact hK _ _ ((hC _ _ _ _).1 M_11110110000000) | exact ⟨trivial, hK _ _ ((hC _ _ _ _).1 M_11110110000000)⟩ | exact ⟨fun _ _ => trivial, hK _ _ ((hC _ _ _ _).1 M_11110110000000)⟩
        refine AllReadyIn.cons rfl (fun K hK => ?_) ?_
        · go_simp; first | exact hK _ _ ((hC _ _ _ _).1 M_11110101000000) | exact ⟨trivial, hK _ _ ((hC _ _ _ _).1 M_11110101000000)⟩ | exact ⟨fun _ _ => trivial, hK _ _ ((hC _ _ _ _).1 M_11110101000000)⟩
        exact AllReadyIn.nil
      have M_11100100000000 : C 10 #[true, true, true, false, false, true, false, false, false, false, false, false, false, false] { tmps := #[.func (.yield l) #[] #[], .pointer (some ⟨Bs, 0, none⟩), .pointer (some ⟨W.heap.size, 0, none⟩), .pointer (some ⟨k, 0, none⟩), .string s, .func (.func 41) #[] #[.pointer (some ⟨W.heap.size + 1, 0, none⟩)], .agg #[.int .i64 x.val.1, .int .i64 x.val.2.1, .bool false], .pointer (some ⟨k, 2, none⟩), .bool false, .bool false, undef, undef, undef, undef, undef, undef, undef, undef, undef, undef, undef], defers := [] } W'.drew := by
        refine (hC _ _ _ _).2 (wpAnyIn_ready (rs := [3, 4, 6, 7]) (by kernel_rfl) (by simp) ?_)
        refine AllReadyIn.cons rfl (fun K hK => ?_) ?_
        · go_simp; first | exact hK _ _ ((hC _ _ _ _).1 M_11110100000000) | exact ⟨trivial, hK _ _ ((hC _ _ _ _).1 M_11110100000000)⟩ | exact ⟨fun _ _ => trivial, hK _ _ ((hC _ _ _ _).1 M_11110100000000)⟩
        refine AllReadyIn.cons rfl (fun K hK => ?_) ?_
        · go_simp; first | exact hK _ _ ((hC _ _ _ _).1 M_11101100000000) | exact ⟨trivial, hK _ _ ((hC _ _ _ _).1 M_11101100000000)⟩ | exact ⟨fun _ _ => trivial, hK _ _ ((hC _ _ _ _).1 M_11101100000000)⟩
        refine AllReadyIn.cons rfl (fun K hK => ?_) ?_
        · go_simp; first | exact hK _ _ ((hC _ _ _ _).1 M_11100110000000) | exact ⟨trivial, hK _ _ ((hC _ _ _ _).1 M_11100110000000)⟩ | exact ⟨fun _ _ => trivial, hK _ _ ((hC _ _ _ _).1 M_11100110000000)⟩
        refine AllReadyIn.cons rfl (fun K hK => ?_) ?_
        · go_simp; first | exact hK _ _ ((hC _ _ _ _).1 M_11100101000000) | exact ⟨trivial, hK _ _ ((hC _ _ _ _).1 M_11100101000000)⟩ | exact ⟨fun _ _ => trivial, hK _ _ ((hC _ _ _ _).1 M_11100101000000)⟩
        exact AllReadyIn.nil
      have M_11100001000000 : C 10 #[true, true, true, false, false, false, false, true, false, false, false, false, false, false] { tmps := #[.func (.yield l) #[] #[], .pointer (some ⟨Bs, 0, none⟩), .pointer (some ⟨W.heap.size, 0, none⟩), .pointer (some ⟨k, 0, none⟩), .string s, .func (.func 41) #[] #[.pointer (some ⟨W.heap.size + 1, 0, none⟩)], .agg #[.int .i64 x.val.1, .int .i64 x.val.2.1, .bool false], .pointer (some ⟨k, 2, none⟩), .bool false, .bool false, undef, undef, undef, undef, undef, undef, undef, undef, undef, undef, undef], defers := [] } W'.drew := by
        refine (hC _ _ _ _).2 (wpAnyIn_ready (rs := [3, 4, 5, 8]) (by kernel_rfl) (by simp) ?_)
        refine AllReadyIn.cons rfl (fun K hK => ?_) ?_
        · go_simp; first | exact hK _ _ ((hC _ _ _ _).1 M_11110001000000) | exact ⟨trivial, hK _ _ ((hC _ _ _ _).1 M_11110001000000)⟩ | exact ⟨fun _ _ => trivial, hK _ _ ((hC _ _ _ _).1 M_11110001000000)⟩
        refine AllReadyIn.cons rfl (fun K hK => ?_) ?_
        · go_simp; first | exact hK _ _ ((hC _ _ _ _).1 M_11101001000000) | exact ⟨trivial, hK _ _ ((hC _ _ _ _).1 M_11101001000000)⟩ | exact ⟨fun _ _ => trivial, hK _ _ ((hC _ _ _ _).1 M_11101001000000)⟩
        refine AllReadyIn.cons rfl (fun K hK => ?_) ?_
        · go_simp; first | exact hK _ _ ((hC _ _ _ _).1 M_11100101000000) | exact ⟨trivial, hK _ _ ((hC _ _ _ _).1 M_11100101000000)⟩ | exact ⟨fun _ _ => trivial, hK _ _ ((hC _ _ _ _).1 M_11100101000000)⟩
        refine AllReadyIn.cons rfl (fun K hK => ?_) ?_
        · go_simp; first | exact hK _ _ ((hC _ _ _ _).1 M_11100001100000) | exact ⟨trivial, hK _ _ ((hC _ _ _ _).1 M_11100001100000)⟩ | exact ⟨fun _ _ => trivial, hK _ _ ((hC _ _ _ _).1 M_11100001100000)⟩
        exact AllReadyIn.nil
      have M_11110000000000 : C 10 #[true, true, true, true, false, false, false, false, false, false, false, false, false, false] { tmps := #[.func (.yield l) #[] #[], .pointer (some ⟨Bs, 0, none⟩), .pointer (some ⟨W.heap.size, 0, none⟩), .pointer (some ⟨k, 0, none⟩), .string s, .func (.func 41) #[] #[.pointer (some ⟨W.heap.size + 1, 0, none⟩)], .agg #[.int .i64 x.val.1, .int .i64 x.val.2.1, .bool false], .pointer (some ⟨k, 2, none⟩), .bool false, .bool false, undef, undef, undef, undef, undef, undef, undef, undef, undef, undef, undef], defers := [] } W'.drew := by
        refine (hC _ _ _ _).2 (wpAnyIn_ready (rs := [4, 5, 7]) (by kernel_rfl) (by simp) ?_)
        refine AllReadyIn.cons rfl (fun K hK => ?_) ?_
        · go_simp; first | exact hK _ _ ((hC _ _ _ _).1 M_11111000000000) | exact ⟨trivial, hK _ _ ((hC _ _ _ _).1 M_11111000000000)⟩ | exact ⟨fun _ _ => trivial, hK _ _ ((hC _ _ _ _).1 M_11111000000000)⟩
        refine AllReadyIn.cons rfl (fun K hK => ?_) ?_
        · go_simp; first | exact hK _ _ ((hC _ _ _ _).1 M_11110100000000) | exact ⟨trivial, hK _ _ ((hC _ _ _ _).1 M_11110100000000)⟩ | exact ⟨fun _ _ => trivial, hK _ _ ((hC _ _ _ _).1 M_11110100000000)⟩
        refine AllReadyIn.cons rfl (fun K hK => ?_) ?_
        · go_simp; first | exact hK _ _ ((hC _ _ _ _).1 M_11110001000000) | exact ⟨trivial, hK _ _ ((hC _ _ _ _).1 M_11110001000000)⟩ | exact ⟨fun _ _ => trivial, hK _ _ ((hC _ _ _ _).1 M_11110001000000)⟩
        exact AllReadyIn.nil
      have M_11101000000000 : C 10 #[true, true, true, false, true, false, false, false, false, false, false, false, false, false] { tmps := #[.func (.yield l) #[] #[], .pointer (some ⟨Bs, 0, none⟩), .pointer (some ⟨W.heap.size, 0, none⟩), .pointer (some ⟨k, 0, none⟩), .string s, .func (.func 41) #[] #[.pointer (some ⟨W.heap.size + 1, 0, none⟩)], .agg #[.int .i64 x.val.1, .int .i64 x.val.2.1, .bool false], .pointer (some ⟨k, 2, none⟩), .bool false, .bool false, undef, undef, undef, undef, undef, undef, undef, undef, undef, undef, undef], defers := [] } W'.drew := by
        refine (hC _ _ _ _).2 (wpAnyIn_ready (rs := [3, 5, 7]) (by kernel_rfl) (by simp) ?_)
        refine AllReadyIn.cons rfl (fun K hK => ?_) ?_
        · go_simp; first | exact hK _ _ ((hC _ _ _ _).1 M_11111000000000) | exact ⟨trivial, hK _ _ ((hC _ _ _ _).1 M_11111000000000)⟩ | exact ⟨fun _ _ => trivial, hK _ _ ((hC _ _ _ _).1 M_11111000000000)⟩
        refine AllReadyIn.cons rfl (fun K hK => ?_) ?_
        · go_simp; first | exact hK _ _ ((hC _ _ _ _).1 M_11101100000000) | exact ⟨trivial, hK _ _ ((hC _ _ _ _).1 M_11101100000000)⟩ | exact ⟨fun _ _ => trivial, hK _ _ ((hC _ _ _ _).1 M_11101100000000)⟩
        refine AllReadyIn.cons rfl (fun K hK => ?_) ?_
        · go_simp; first | exact hK _ _ ((hC _ _ _ _).1 M_11101001000000) | exact ⟨trivial, hK _ _ ((hC _ _ _ _).1 M_11101001000000)⟩ | exact ⟨fun _ _ => trivial, hK _ _ ((hC _ _ _ _).1 M_11101001000000)⟩
        exact AllReadyIn.nil
      have M_11100000000000 : C 11 #[true, true, true, false, false, false, false, false, false, false, false, false, false, false] { tmps := #[.func (.yield l) #[] #[], .pointer (some ⟨Bs, 0, none⟩), .pointer (some ⟨W.heap.size, 0, none⟩), .pointer (some ⟨k, 0, none⟩), .string s, .func (.func 41) #[] #[.pointer (some ⟨W.heap.size + 1, 0, none⟩)], .agg #[.int .i64 x.val.1, .int .i64 x.val.2.1, .bool false], .pointer (some ⟨k, 2, none⟩), .bool false, .bool false, undef, undef, undef, undef, undef, undef, undef, undef, undef, undef, undef], defers := [] } W'.drew := by
        refine (hC _ _ _ _).2 (wpAnyIn_ready (rs := [3, 4, 5, 7]) (by kernel_rfl) (by simp) ?_)
        refine AllReadyIn.cons rfl (fun K hK => ?_) ?_
        · go_simp; first | exact hK _ _ ((hC _ _ _ _).1 M_11110000000000) | exact ⟨trivial, hK _ _ ((hC _ _ _ _).1 M_11110000000000)⟩ | exact ⟨fun _ _ => trivial, hK _ _ ((hC _ _ _ _).1 M_11110000000000)⟩
        refine AllReadyIn.cons rfl (fun K hK => ?_) ?_
        · go_simp; first | exact hK _ _ ((hC _ _ _ _).1 M_11101000000000) | exact ⟨trivial, hK _ _ ((hC _ _ _ _).1 M_11101000000000)⟩ | exact ⟨fun _ _ => trivial, hK _ _ ((hC _ _ _ _).1 M_11101000000000)⟩
        refine AllReadyIn.cons rfl (fun K hK => ?_) ?_
        · go_simp; first | exact hK _ _ ((hC _ _ _ _).1 M_11100100000000) | exact ⟨trivial, hK _ _ ((hC _ _ _ _).1 M_11100100000000)⟩ | exact ⟨fun _ _ => trivial, hK _ _ ((hC _ _ _ _).1 M_11100100000000)⟩
        refine AllReadyIn.cons rfl (fun K hK => ?_) ?_
        · go_simp; first | exact hK _ _ ((hC _ _ _ _).1 M_11100001000000) | exact ⟨trivial, hK _ _ ((hC _ _ _ _).1 M_11100001000000)⟩ | exact ⟨fun _ _ => trivial, hK _ _ ((hC _ _ _ _).1 M_11100001000000)⟩
        exact AllReadyIn.nil
      have M_11000000000000 : C 12 #[true, true, false, false, false, false, false, false, false, false, false, false, false, false] { tmps := #[.func (.yield l) #[] #[], .pointer (some ⟨Bs, 0, none⟩), .pointer (some ⟨W.heap.size, 0, none⟩), .pointer (some ⟨k, 0, none⟩), .string s, .func (.func 41) #[] #[.pointer (some ⟨W.heap.size + 1, 0, none⟩)], .agg #[.int .i64 x.val.1, .int .i64 x.val.2.1, .bool false], .pointer (some ⟨k, 2, none⟩), .bool false, undef, undef, undef, undef, undef, undef, undef, undef, undef, undef, undef, undef], defers := [] } W'.drew := by
        refine (hC _ _ _ _).2 (wpAnyIn_ready (rs := [2]) (by kernel_rfl) (by simp) ?_)
        refine AllReadyIn.cons rfl (fun K hK => ?_) ?_
        · go_simp; first | exact hK _ _ ((hC _ _ _ _).1 M_11100000000000) | exact ⟨trivial, hK _ _ ((hC _ _ _ _).1 M_11100000000000)⟩ | exact ⟨fun _ _ => trivial, hK _ _ ((hC _ _ _ _).1 M_11100000000000)⟩
        exact AllReadyIn.nil
      have M_10000000000000 : C 13 #[true, false, false, false, false, false, false, false, false, false, false, false, false, false] { tmps := #[.func (.yield l) #[] #[], .pointer (some ⟨Bs, 0, none⟩), .pointer (some ⟨W.heap.size, 0, none⟩), .pointer (some ⟨k, 0, none⟩), .string s, .func (.func 41) #[] #[.pointer (some ⟨W.heap.size + 1, 0, none⟩)], .agg #[.int .i64 x.val.1, .int .i64 x.val.2.1, .bool false], .pointer (some ⟨k, 2, none⟩), undef, undef, undef, undef, undef, undef, undef, undef, undef, undef, undef, undef, undef], defers := [] } W'.drew := by
        refine (hC _ _ _ _).2 (wpAnyIn_ready (rs := [1]) (by kernel_rfl) (by simp) ?_)
        refine AllReadyIn.cons rfl (fun K hK => ?_) ?_
        · go_simp; first | exact hK _ _ ((hC _ _ _ _).1 M_11000000000000) | exact ⟨trivial, hK _ _ ((hC _ _ _ _).1 M_11000000000000)⟩ | exact ⟨fun _ _ => trivial, hK _ _ ((hC _ _ _ _).1 M_11000000000000)⟩
        exact AllReadyIn.nil
      have M_00000000000000 : C 14 #[false, false, false, false, false, false, false, false, false, false, false, false, false, false] { tmps := #[.func (.yield l) #[] #[], .pointer (some ⟨Bs, 0, none⟩), .pointer (some ⟨W.heap.size, 0, none⟩), .pointer (some ⟨k, 0, none⟩), .string s, .func (.func 41) #[] #[.pointer (some ⟨W.heap.size + 1, 0, none⟩)], .agg #[.int .i64 x.val.1, .int .i64 x.val.2.1, .bool false], undef, undef, undef, undef, undef, undef, undef, undef, undef, undef, undef, undef, undef, undef], defers := [] } W'.drew := by
        refine (hC _ _ _ _).2 (wpAnyIn_ready (rs := [0]) (by kernel_rfl) (by simp) ?_)
        refine AllReadyIn.cons rfl (fun K hK => ?_) ?_
        · go_simp; first | exact hK _ _ ((hC _ _ _ _).1 M_10000000000000) | exact ⟨trivial, hK _ _ ((hC _ _ _ _).1 M_10000000000000)⟩ | exact ⟨fun _ _ => trivial, hK _ _ ((hC _ _ _ _).1 M_10000000000000)⟩
        exact AllReadyIn.nil
      exact M_00000000000000
    · rw [htk] at p2
      obtain ⟨q1, q2, q3⟩ := x.property
      have hXs : (s.extract x.val.1.toNat x.val.2.1.toNat).size ≤ 281474976710656 := by simp; omega
      have hlen : (tokS s (spL pre)).length < s.size := by
        have := tokS_len s (spL pre)
        have h2 : (spL pre).length = pre.length := by simp [spL]
        omega
      have hby : Below W'.heap.size W' W'.drew := (Below.refl _ W').drew
      rw [show spV x.val = .agg #[.int .i64 x.val.1, .int .i64 x.val.2.1, .bool true] by simp [spV, htk]]
      gi_wp2
      refine wpIn_region_any hmix ?_
      change wpAnyIn _ _ _ _ _ _ _ _ _ (World.drew _)
      refine anyIn_memo fun C hC => ?_
      have B4 : ∀ w1, Below W'.heap.size W' w1 → C 3 #[true, true, true, true, true, true, true, true, true, true, true, false, false, false] { tmps := #[.func (.yield l) #[] #[], .pointer (some ⟨Bs, 0, none⟩), .pointer (some ⟨W.heap.size, 0, none⟩), .pointer (some ⟨k, 0, none⟩), .string s, .func (.func 41) #[] #[.pointer (some ⟨W.heap.size + 1, 0, none⟩)], .agg #[.int .i64 x.val.1, .int .i64 x.val.2.1, .bool true], .pointer (some ⟨k, 2, none⟩), .bool true, .bool true, .func (.yield l) #[] #[], .string s, .pointer (some ⟨k, 0, none⟩), .int .i64 x.val.1, .pointer (some ⟨k, 1, none⟩), .int .i64 x.val.2.1, .string (s.extract x.val.1.toNat x.val.2.1.toNat), .string (s.extract x.val.1.toNat x.val.2.1.toNat), undef, undef, undef], defers := [] } w1 := by
        intro w1 hb1
        obtain ⟨fn, tmps, assign, body, hy, hR⟩ := yield_deep (l' := l') (m' := 2) (hY (tokS s (spL pre)) (s.extract x.val.1.toNat x.val.2.1.toNat) w1 (hJ _ _ _ hj (by omega) (Priv.of_below hb1 (by omega))) hlen (Nat.le_trans hsz hb1.size))
        refine (hC _ _ _ _).2 (wpAnyIn_ready (rs := [11]) (by kernel_rfl) (by simp) ?_)
        refine AllReadyIn.cons rfl (fun K hK => ?_) AllReadyIn.nil
        go_simp
        refine hR.mono ?_
        rintro e W3 ⟨rfl, hj3, hkp3, hkf3, hk23⟩
        refine hK _ _ ?_
        clear hK K
        refine wpAnyIn_ready (rs := [12]) (by kernel_rfl) (by simp) ?_
        refine AllReadyIn.cons rfl (fun K hK => ?_) AllReadyIn.nil
        go_simp; refine hK _ _ ?_; clear hK K
        refine wpAnyIn_ready (rs := [13]) (by kernel_rfl) (by simp) ?_
        refine AllReadyIn.cons rfl (fun K hK => ?_) AllReadyIn.nil
        go_simp; refine hK _ _ ?_; clear hK K
        refine wpAnyIn_done (by kernel_rfl) ?_ _
        gi_wp2
        exact ⟨(keepsFrom_below hb1).trans (KeepsFrom.up hkf3 (by simp; omega)), (Keep.of_below hb1 (by omega) hsz).trans ⟨hkp3.1, hk23 _ (by omega) (by omega)⟩, by rw [spL_snoc, tokS_snoc, htk]; exact hj3, (hk23 _ (by omega) (by omega)).trans ((hb1.block _ (by omega)).trans y1), (hk23 _ (by omega) (by omega)).trans ((hb1.block _ (by omega)).trans y2), hkp3.2.trans ((hb1.block _ (by omega)).trans y3)⟩
      have B3 : ∀ w1, Below W'.heap.size W' w1 → C 4 #[true, true, true, false, true, true, true, true, true, true, true, false, false, false] { tmps := #[.func (.yield l) #[] #[], .pointer (some ⟨Bs, 0, none⟩), .pointer (some ⟨W.heap.size, 0, none⟩), .pointer (some ⟨k, 0, none⟩), .string s, .func (.func 41) #[] #[.pointer (some ⟨W.heap.size + 1, 0, none⟩)], .agg #[.int .i64 x.val.1, .int .i64 x.val.2.1, .bool true], .pointer (some ⟨k, 2, none⟩), .bool true, .bool true, undef, .string s, .pointer (some ⟨k, 0, none⟩), .int .i64 x.val.1, .pointer (some ⟨k, 1, none⟩), .int .i64 x.val.2.1, .string (s.extract x.val.1.toNat x.val.2.1.toNat), .string (s.extract x.val.1.toNat x.val.2.1.toNat), undef, undef, undef], defers := [] } w1 := by
        intro w1 hb1
        have hcy1 : w1.cell? ⟨W.heap.size, 0, none⟩ = some (.func (.yield l) #[] #[]) := (hb1.cell (p := ⟨W.heap.size, 0, none⟩) y1.lt).trans hcy
        refine (hC _ _ _ _).2 (wpAnyIn_ready (rs := [3]) (by kernel_rfl) (by simp) ?_)
        refine AllReadyIn.cons rfl (fun K hK => ?_) AllReadyIn.nil
        go_simp; exact hK _ _ ((hC _ _ _ _).1 (B4 w1 hb1))
      have N_11111111110000 : C 4 #[true, true, true, true, true, true, true, true, true, true, false, false, false, false] { tmps := #[.func (.yield l) #[] #[], .pointer (some ⟨Bs, 0, none⟩), .pointer (some ⟨W.heap.size, 0, none⟩), .pointer (some ⟨k, 0, none⟩), .string s, .func (.func 41) #[] #[.pointer (some ⟨W.heap.size + 1, 0, none⟩)], .agg #[.int .i64 x.val.1, .int .i64 x.val.2.1, .bool true], .pointer (some ⟨k, 2, none⟩), .bool true, .bool true, .func (.yield l) #[] #[], .string s, .pointer (some ⟨k, 0, none⟩), .int .i64 x.val.1, .pointer (some ⟨k, 1, none⟩), .int .i64 x.val.2.1, .string (s.extract x.val.1.toNat x.val.2.1.toNat), undef, undef, undef, undef], defers := [] } W'.drew := by
        refine (hC _ _ _ _).2 (wpAnyIn_ready (rs := [10]) (by kernel_rfl) (by simp) ?_)
        refine AllReadyIn.cons rfl (fun K hK => ?_) ?_
        · go_simp
          gi_wp2_with (refine ⟨trivial, ?_⟩; gi_at_call 47; refine (CallsIn.inRound l' (callsIn_wide.2 (clone_any (s.extract x.val.1.toNat x.val.2.1.toNat) _ hXs))).mono ?_; rintro e w1 ⟨rfl, hb1⟩)
          exact (hC _ _ _ _).1 (B4 w1 (hby.trans hb1))
        exact AllReadyIn.nil
      have N_11111111100000 : C 5 #[true, true, true, true, true, true, true, true, true, false, false, false, false, false] { tmps := #[.func (.yield l) #[] #[], .pointer (some ⟨Bs, 0, none⟩), .pointer (some ⟨W.heap.size, 0, none⟩), .pointer (some ⟨k, 0, none⟩), .string s, .func (.func 41) #[] #[.pointer (some ⟨W.heap.size + 1, 0, none⟩)], .agg #[.int .i64 x.val.1, .int .i64 x.val.2.1, .bool true], .pointer (some ⟨k, 2, none⟩), .bool true, .bool true, .func (.yield l) #[] #[], .string s, .pointer (some ⟨k, 0, none⟩), .int .i64 x.val.1, .pointer (some ⟨k, 1, none⟩), .int .i64 x.val.2.1, undef, undef, undef, undef, undef], defers := [] } W'.drew := by
        refine (hC _ _ _ _).2 (wpAnyIn_ready (rs := [9]) (by kernel_rfl) (by simp) ?_)
        refine AllReadyIn.cons rfl (fun K hK => ?_) ?_
        · go_simp; exact hK _ _ ((hC _ _ _ _).1 N_11111111110000)
        exact AllReadyIn.nil
      have N_11101111110000 : C 5 #[true, true, true, false, true, true, true, true, true, true, false, false, false, false] { tmps := #[.func (.yield l) #[] #[], .pointer (some ⟨Bs, 0, none⟩), .pointer (some ⟨W.heap.size, 0, none⟩), .pointer (some ⟨k, 0, none⟩), .string s, .func (.func 41) #[] #[.pointer (some ⟨W.heap.size + 1, 0, none⟩)], .agg #[.int .i64 x.val.1, .int .i64 x.val.2.1, .bool true], .pointer (some ⟨k, 2, none⟩), .bool true, .bool true, undef, .string s, .pointer (some ⟨k, 0, none⟩), .int .i64 x.val.1, .pointer (some ⟨k, 1, none⟩), .int .i64 x.val.2.1, .string (s.extract x.val.1.toNat x.val.2.1.toNat), undef, undef, undef, undef], defers := [] } W'.drew := by
        refine (hC _ _ _ _).2 (wpAnyIn_ready (rs := [3, 10]) (by kernel_rfl) (by simp) ?_)
        refine AllReadyIn.cons rfl (fun K hK => ?_) ?_
        · go_simp; exact hK _ _ ((hC _ _ _ _).1 N_11111111110000)
        refine AllReadyIn.cons rfl (fun K hK => ?_) ?_
        · go_simp
          gi_wp2_with (refine ⟨trivial, ?_⟩; gi_at_call 47; refine (CallsIn.inRound l' (callsIn_wide.2 (clone_any (s.extract x.val.1.toNat x.val.2.1.toNat) _ hXs))).mono ?_; rintro e w1 ⟨rfl, hb1⟩)
          exact (hC _ _ _ _).1 (B3 w1 (hby.trans hb1))
        exact AllReadyIn.nil
      have N_11110111100000 : C 6 #[true, true, true, true, false, true, true, true, true, false, false, false, false, false] { tmps := #[.func (.yield l) #[] #[], .pointer (some ⟨Bs, 0, none⟩), .pointer (some ⟨W.heap.size, 0, none⟩), .pointer (some ⟨k, 0, none⟩), .string s, .func (.func 41) #[] #[.pointer (some ⟨W.heap.size + 1, 0, none⟩)], .agg #[.int .i64 x.val.1, .int .i64 x.val.2.1, .bool true], .pointer (some ⟨k, 2, none⟩), .bool true, .bool true, .func (.yield l) #[] #[], undef, .pointer (some ⟨k, 0, none⟩), .int .i64 x.val.1, .pointer (some ⟨k, 1, none⟩), .int .i64 x.val.2.1, undef, undef, undef, undef, undef], defers := [] } W'.drew := by
        refine (hC _ _ _ _).2 (wpAnyIn_ready (rs := [4]) (by kernel_rfl) (by simp) ?_)
        refine AllReadyIn.cons rfl (fun K hK => ?_) ?_
        · go_simp; exact hK _ _ ((hC _ _ _ _).1 N_11111111100000)
        exact AllReadyIn.nil
      have N_11111101100000 : C 6 #[true, true, true, true, true, true, false, true, true, false, false, false, false, false] { tmps := #[.func (.yield l) #[] #[], .pointer (some ⟨Bs, 0, none⟩), .pointer (some ⟨W.heap.size, 0, none⟩), .pointer (some ⟨k, 0, none⟩), .string s, .func (.func 41) #[] #[.pointer (some ⟨W.heap.size + 1, 0, none⟩)], .agg #[.int .i64 x.val.1, .int .i64 x.val.2.1, .bool true], .pointer (some ⟨k, 2, none⟩), .bool true, .bool true, .func (.yield l) #[] #[], .string s, .pointer (some ⟨k, 0, none⟩), undef, .pointer (some ⟨k, 1, none⟩), .int .i64 x.val.2.1, undef, undef, undef, undef, undef], defers := [] } W'.drew := by
        refine (hC _ _ _ _).2 (wpAnyIn_ready (rs := [6]) (by kernel_rfl) (by simp) ?_)
        refine AllReadyIn.cons rfl (fun K hK => ?_) ?_
        · go_simp; exact hK _ _ ((hC _ _ _ _).1 N_11111111100000)
        exact AllReadyIn.nil
      have N_11101111100000 : C 6 #[true, true, true, false, true, true, true, true, true, false, false, false, false, false] { tmps := #[.func (.yield l) #[] #[], .pointer (some ⟨Bs, 0, none⟩), .pointer (some ⟨W.heap.size, 0, none⟩), .pointer (some ⟨k, 0, none⟩), .string s, .func (.func 41) #[] #[.pointer (some ⟨W.heap.size + 1, 0, none⟩)], .agg #[.int .i64 x.val.1, .int .i64 x.val.2.1, .bool true], .pointer (some ⟨k, 2, none⟩), .bool true, .bool true, undef, .string s, .pointer (some ⟨k, 0, none⟩), .int .i64 x.val.1, .pointer (some ⟨k, 1, none⟩), .int .i64 x.val.2.1, undef, undef, undef, undef, undef], defers := [] } W'.drew := by
        refine (hC _ _ _ _).2 (wpAnyIn_ready (rs := [3, 9]) (by kernel_rfl) (by simp) ?_)
        refine AllReadyIn.cons rfl (fun K hK => ?_) ?_
        · go_simp; exact hK _ _ ((hC _ _ _ _).1 N_11111111100000)
        refine AllReadyIn.cons rfl (fun K hK => ?_) ?_
        · go_simp; exact hK _ _ ((hC _ _ _ _).1 N_11101111110000)
        exact AllReadyIn.nil
      have N_11111111000000 : C 6 #[true, true, true, true, true, true, true, true, false, false, false, false, false, false] { tmps := #[.func (.yield l) #[] #[], .pointer (some ⟨Bs, 0, none⟩), .pointer (some ⟨W.heap.size, 0, none⟩), .pointer (some ⟨k, 0, none⟩), .string s, .func (.func 41) #[] #[.pointer (some ⟨W.heap.size + 1, 0, none⟩)], .agg #[.int .i64 x.val.1, .int .i64 x.val.2.1, .bool true], .pointer (some ⟨k, 2, none⟩), .bool true, .bool true, .func (.yield l) #[] #[], .string s, .pointer (some ⟨k, 0, none⟩), .int .i64 x.val.1, .pointer (some ⟨k, 1, none⟩), undef, undef, undef, undef, undef, undef], defers := [] } W'.drew := by
        refine (hC _ _ _ _).2 (wpAnyIn_ready (rs := [8]) (by kernel_rfl) (by simp) ?_)
        refine AllReadyIn.cons rfl (fun K hK => ?_) ?_
        · go_simp; exact hK _ _ ((hC _ _ _ _).1 N_11111111100000)
        exact AllReadyIn.nil
      have N_11110101100000 : C 7 #[true, true, true, true, false, true, false, true, true, false, false, false, false, false] { tmps := #[.func (.yield l) #[] #[], .pointer (some ⟨Bs, 0, none⟩), .pointer (some ⟨W.heap.size, 0, none⟩), .pointer (some ⟨k, 0, none⟩), .string s, .func (.func 41) #[] #[.pointer (some ⟨W.heap.size + 1, 0, none⟩)], .agg #[.int .i64 x.val.1, .int .i64 x.val.2.1, .bool true], .pointer (some ⟨k, 2, none⟩), .bool true, .bool true, .func (.yield l) #[] #[], undef, .pointer (some ⟨k, 0, none⟩), undef, .pointer (some ⟨k, 1, none⟩), .int .i64 x.val.2.1, undef, undef, undef, undef, undef], defers := [] } W'.drew := by
        refine (hC _ _ _ _).2 (wpAnyIn_ready (rs := [4, 6]) (by kernel_rfl) (by simp) ?_)
        refine AllReadyIn.cons rfl (fun K hK => ?_) ?_
        · go_simp; exact hK _ _ ((hC _ _ _ _).1 N_11111101100000)
        refine AllReadyIn.cons rfl (fun K hK => ?_) ?_
        · go_simp; exact hK _ _ ((hC _ _ _ _).1 N_11110111100000)
        exact AllReadyIn.nil
      have N_11100111100000 : C 7 #[true, true, true, false, false, true, true, true, true, false, false, false, false, false] { tmps := #[.func (.yield l) #[] #[], .pointer (some ⟨Bs, 0, none⟩), .pointer (some ⟨W.heap.size, 0, none⟩), .pointer (some ⟨k, 0, none⟩), .string s, .func (.func 41) #[] #[.pointer (some ⟨W.heap.size + 1, 0, none⟩)], .agg #[.int .i64 x.val.1, .int .i64 x.val.2.1, .bool true], .pointer (some ⟨k, 2, none⟩), .bool true, .bool true, undef, undef, .pointer (some ⟨k, 0, none⟩), .int .i64 x.val.1, .pointer (some ⟨k, 1, none⟩), .int .i64 x.val.2.1, undef, undef, undef, undef, undef], defers := [] } W'.drew := by
        refine (hC _ _ _ _).2 (wpAnyIn_ready (rs := [3, 4]) (by kernel_rfl) (by simp) ?_)
        refine AllReadyIn.cons rfl (fun K hK => ?_) ?_
        · go_simp; exact hK _ _ ((hC _ _ _ _).1 N_11110111100000)
        refine AllReadyIn.cons rfl (fun K hK => ?_) ?_
        · go_simp; exact hK _ _ ((hC _ _ _ _).1 N_11101111100000)
        exact AllReadyIn.nil
      have N_11110111000000 : C 7 #[true, true, true, true, false, true, true, true, false, false, false, false, false, false] { tmps := #[.func (.yield l) #[] #[], .pointer (some ⟨Bs, 0, none⟩), .pointer (some ⟨W.heap.size, 0, none⟩), .pointer (some ⟨k, 0, none⟩), .string s, .func (.func 41) #[] #[.pointer (some ⟨W.heap.size + 1, 0, none⟩)], .agg #[.int .i64 x.val.1, .int .i64 x.val.2.1, .bool true], .pointer (some ⟨k, 2, none⟩), .bool true, .bool true, .func (.yield l) #[] #[], undef, .pointer (some ⟨k, 0, none⟩), .int .i64 x.val.1, .pointer (some ⟨k, 1, none⟩), undef, undef, undef, undef, undef, undef], defers := [] } W'.drew := by
        refine (hC _ _ _ _).2 (wpAnyIn_ready (rs := [4, 8]) (by kernel_rfl) (by simp) ?_)
        refine AllReadyIn.cons rfl (fun K hK => ?_) ?_
        · go_simp; exact hK _ _ ((hC _ _ _ _).1 N_11111111000000)
        refine AllReadyIn.cons rfl (fun K hK => ?_) ?_
        · go_simp; exact hK _ _ ((hC _ _ _ _).1 N_11110111100000)
        exact AllReadyIn.nil
      have N_11111001100000 : C 7 #[true, true, true, true, true, false, false, true, true, false, false, false, false, false] { tmps := #[.func (.yield l) #[] #[], .pointer (some ⟨Bs, 0, none⟩), .pointer (some ⟨W.heap.size, 0, none⟩), .pointer (some ⟨k, 0, none⟩), .string s, .func (.func 41) #[] #[.pointer (some ⟨W.heap.size + 1, 0, none⟩)], .agg #[.int .i64 x.val.1, .int .i64 x.val.2.1, .bool true], .pointer (some ⟨k, 2, none⟩), .bool true, .bool true, .func (.yield l) #[] #[], .string s, undef, undef, .pointer (some ⟨k, 1, none⟩), .int .i64 x.val.2.1, undef, undef, undef, undef, undef], defers := [] } W'.drew := by
        refine (hC _ _ _ _).2 (wpAnyIn_ready (rs := [5]) (by kernel_rfl) (by simp) ?_)
        refine AllReadyIn.cons rfl (fun K hK => ?_) ?_
        · go_simp; exact hK _ _ ((hC _ _ _ _).1 N_11111101100000)
        exact AllReadyIn.nil
      have N_11101111000000 : C 7 #[true, true, true, false, true, true, true, true, false, false, false, false, false, false] { tmps := #[.func (.yield l) #[] #[], .pointer (some ⟨Bs, 0, none⟩), .pointer (some ⟨W.heap.size, 0, none⟩), .pointer (some ⟨k, 0, none⟩), .string s, .func (.func 41) #[] #[.pointer (some ⟨W.heap.size + 1, 0, none⟩)], .agg #[.int .i64 x.val.1, .int .i64 x.val.2.1, .bool true], .pointer (some ⟨k, 2, none⟩), .bool true, .bool true, undef, .string s, .pointer (some ⟨k, 0, none⟩), .int .i64 x.val.1, .pointer (some ⟨k, 1, none⟩), undef, undef, undef, undef, undef, undef], defers := [] } W'.drew := by
        refine (hC _ _ _ _).2 (wpAnyIn_ready (rs := [3, 8]) (by kernel_rfl) (by simp) ?_)
        refine AllReadyIn.cons rfl (fun K hK => ?_) ?_
        · go_simp; exact hK _ _ ((hC _ _ _ _).1 N_11111111000000)
        refine AllReadyIn.cons rfl (fun K hK => ?_) ?_
        · go_simp; exact hK _ _ ((hC _ _ _ _).1 N_11101111100000)
        exact AllReadyIn.nil
      have N_11101101100000 : C 7 #[true, true, true, false, true, true, false, true, true, false, false, false, false, false] { tmps := #[.func (.yield l) #[] #[], .pointer (some ⟨Bs, 0, none⟩), .pointer (some ⟨W.heap.size, 0, none⟩), .pointer (some ⟨k, 0, none⟩), .string s, .func (.func 41) #[] #[.pointer (some ⟨W.heap.size + 1, 0, none⟩)], .agg #[.int .i64 x.val.1, .int .i64 x.val.2.1, .bool true], .pointer (some ⟨k, 2, none⟩), .bool true, .bool true, undef, .string s, .pointer (some ⟨k, 0, none⟩), undef, .pointer (some ⟨k, 1, none⟩), .int .i64 x.val.2.1, undef, undef, undef, undef, undef], defers := [] } W'.drew := by
        refine (hC _ _ _ _).2 (wpAnyIn_ready (rs := [3, 6]) (by kernel_rfl) (by simp) ?_)
        refine AllReadyIn.cons rfl (fun K hK => ?_) ?_
        · go_simp; exact hK _ _ ((hC _ _ _ _).1 N_11111101100000)
        refine AllReadyIn.cons rfl (fun K hK => ?_) ?_
        · go_simp; exact hK _ _ ((hC _ _ _ _).1 N_11101111100000)
        exact AllReadyIn.nil
      have N_11111110000000 : C 7 #[true, true, true, true, true, true, true, false, false, false, false, false, false, false] { tmps := #[.func (.yield l) #[] #[], .pointer (some ⟨Bs, 0, none⟩), .pointer (some ⟨W.heap.size, 0, none⟩), .pointer (some ⟨k, 0, none⟩), .string s, .func (.func 41) #[] #[.pointer (some ⟨W.heap.size + 1, 0, none⟩)], .agg #[.int .i64 x.val.1, .int .i64 x.val.2.1, .bool true], .pointer (some ⟨k, 2, none⟩), .bool true, .bool true, .func (.yield l) #[] #[], .string s, .pointer (some ⟨k, 0, none⟩), .int .i64 x.val.1, undef, undef, undef, undef, undef, undef, undef], defers := [] } W'.drew := by
        refine (hC _ _ _ _).2 (wpAnyIn_ready (rs := [7]) (by kernel_rfl) (by simp) ?_)
        refine AllReadyIn.cons rfl (fun K hK => ?_) ?_
        · go_simp; exact hK _ _ ((hC _ _ _ _).1 N_11111111000000)
        exact AllReadyIn.nil
      have N_11111101000000 : C 7 #[true, true, true, true, true, true, false, true, false, false, false, false, false, false] { tmps := #[.func (.yield l) #[] #[], .pointer (some ⟨Bs, 0, none⟩), .pointer (some ⟨W.heap.size, 0, none⟩), .pointer (some ⟨k, 0, none⟩), .string s, .func (.func 41) #[] #[.pointer (some ⟨W.heap.size + 1, 0, none⟩)], .agg #[.int .i64 x.val.1, .int .i64 x.val.2.1, .bool true], .pointer (some ⟨k, 2, none⟩), .bool true, .bool true, .func (.yield l) #[] #[], .string s, .pointer (some ⟨k, 0, none⟩), undef, .pointer (some ⟨k, 1, none⟩), undef, undef, undef, undef, undef, undef], defers := [] } W'.drew := by
        refine (hC _ _ _ _).2 (wpAnyIn_ready (rs := [6, 8]) (by kernel_rfl) (by simp) ?_)
        refine AllReadyIn.cons rfl (fun K hK => ?_) ?_
        · go_simp; exact hK _ _ ((hC _ _ _ _).1 N_11111111000000)
        refine AllReadyIn.cons rfl (fun K hK => ?_) ?_
        · go_simp; exact hK _ _ ((hC _ _ _ _).1 N_11111101100000)
        exact AllReadyIn.nil
      have N_11101110000000 : C 8 #[true, true, true, false, true, true, true, false, false, false, false, false, false, false] { tmps := #[.func (.yield l) #[] #[], .pointer (some ⟨Bs, 0, none⟩), .pointer (some ⟨W.heap.size, 0, none⟩), .pointer (some ⟨k, 0, none⟩), .string s, .func (.func 41) #[] #[.pointer (some ⟨W.heap.size + 1, 0, none⟩)], .agg #[.int .i64 x.val.1, .int .i64 x.val.2.1, .bool true], .pointer (some ⟨k, 2, none⟩), .bool true, .bool true, undef, .string s, .pointer (some ⟨k, 0, none⟩), .int .i64 x.val.1, undef, undef, undef, undef, undef, undef, undef], defers := [] } W'.drew := by
        refine (hC _ _ _ _).2 (wpAnyIn_ready (rs := [3, 7]) (by kernel_rfl) (by simp) ?_)
        refine AllReadyIn.cons rfl (fun K hK => ?_) ?_
        · go_simp; exact hK _ _ ((hC _ _ _ _).1 N_11111110000000)
        refine AllReadyIn.cons rfl (fun K hK => ?_) ?_
        · go_simp; exact hK _ _ ((hC _ _ _ _).1 N_11101111000000)
        exact AllReadyIn.nil
      have N_11110001100000 : C 8 #[true, true, true, true, false, false, false, true, true, false, false, false, false, false] { tmps := #[.func (.yield l) #[] #[], .pointer (some ⟨Bs, 0, none⟩), .pointer (some ⟨W.heap.size, 0, none⟩), .pointer (some ⟨k, 0, none⟩), .string s, .func (.func 41) #[] #[.pointer (some ⟨W.heap.size + 1, 0, none⟩)], .agg #[.int .i64 x.val.1, .int .i64 x.val.2.1, .bool true], .pointer (some ⟨k, 2, none⟩), .bool true, .bool true, .func (.yield l) #[] #[], undef, undef, undef, .pointer (some ⟨k, 1, none⟩), .int .i64 x.val.2.1, undef, undef, undef, undef, undef], defers := [] } W'.drew := by
        refine (hC _ _ _ _).2 (wpAnyIn_ready (rs := [4, 5]) (by kernel_rfl) (by simp) ?_)
        refine AllReadyIn.cons rfl (fun K hK => ?_) ?_
        · go_simp; exact hK _ _ ((hC _ _ _ _).1 N_11111001100000)
        refine AllReadyIn.cons rfl (fun K hK => ?_) ?_
        · go_simp; exact hK _ _ ((hC _ _ _ _).1 N_11110101100000)
        exact AllReadyIn.nil
      have N_11100101100000 : C 8 #[true, true, true, false, false, true, false, true, true, false, false, false, false, false] { tmps := #[.func (.yield l) #[] #[], .pointer (some ⟨Bs, 0, none⟩), .pointer (some ⟨W.heap.size, 0, none⟩), .pointer (some ⟨k, 0, none⟩), .string s, .func (.func 41) #[] #[.pointer (some ⟨W.heap.size + 1, 0, none⟩)], .agg #[.int .i64 x.val.1, .int .i64 x.val.2.1, .bool true], .pointer (some ⟨k, 2, none⟩), .bool true, .bool true, undef, undef, .pointer (some ⟨k, 0, none⟩), undef, .pointer (some ⟨k, 1, none⟩), .int .i64 x.val.2.1, undef, undef, undef, undef, undef], defers := [] } W'.drew := by
        refine (hC _ _ _ _).2 (wpAnyIn_ready (rs := [3, 4, 6]) (by kernel_rfl) (by simp) ?_)
        refine AllReadyIn.cons rfl (fun K hK => ?_) ?_
        · go_simp; exact hK _ _ ((hC _ _ _ _).1 N_11110101100000)
        refine AllReadyIn.cons rfl (fun K hK => ?_) ?_
        · go_simp; exact hK _ _ ((hC _ _ _ _).1 N_11101101100000)
        refine AllReadyIn.cons rfl (fun K hK => ?_) ?_
        · go_simp; exact hK _ _ ((hC _ _ _ _).1 N_11100111100000)
        exact AllReadyIn.nil
      have N_11110110000000 : C 8 #[true, true, true, true, false, true, true, false, false, false, false, false, false, false] { tmps := #[.func (.yield l) #[] #[], .pointer (some ⟨Bs, 0, none⟩), .pointer (some ⟨W.heap.size, 0, none⟩), .pointer (some ⟨k, 0, none⟩), .string s, .func (.func 41) #[] #[.pointer (some ⟨W.heap.size + 1, 0, none⟩)], .agg #[.int .i64 x.val.1, .int .i64 x.val.2.1, .bool true], .pointer (some ⟨k, 2, none⟩), .bool true, .bool true, .func (.yield l) #[] #[], undef, .pointer (some ⟨k, 0, none⟩), .int .i64 x.val.1, undef, undef, undef, undef, undef, undef, undef], defers := [] } W'.drew := by
        refine (hC _ _ _ _).2 (wpAnyIn_ready (rs := [4, 7]) (by kernel_rfl) (by simp) ?_)
        refine AllReadyIn.cons rfl (fun K hK => ?_) ?_
        · go_simp; exact hK _ _ ((hC _ _ _ _).1 N_11111110000000)
        refine AllReadyIn.cons rfl (fun K hK => ?_) ?_
        · go_simp; exact hK _ _ ((hC _ _ _ _).1 N_11110111000000)
        exact AllReadyIn.nil
      have N_11111001000000 : C 8 #[true, true, true, true, true, false, false, true, false, false, false, false, false, false] { tmps := #[.func (.yield l) #[] #[], .pointer (some ⟨Bs, 0, none⟩), .pointer (some ⟨W.heap.size, 0, none⟩), .pointer (some ⟨k, 0, none⟩), .string s, .func (.func 41) #[] #[.pointer (some ⟨W.heap.size + 1, 0, none⟩)], .agg #[.int .i64 x.val.1, .int .i64 x.val.2.1, .bool true], .pointer (some ⟨k, 2, none⟩), .bool true, .bool true, .func (.yield l) #[] #[], .string s, undef, undef, .pointer (some ⟨k, 1, none⟩), undef, undef, undef, undef, undef, undef], defers := [] } W'.drew := by
        refine (hC _ _ _ _).2 (wpAnyIn_ready (rs := [5, 8]) (by kernel_rfl) (by simp) ?_)
        refine AllReadyIn.cons rfl (fun K hK => ?_) ?_
        · go_simp; exact hK _ _ ((hC _ _ _ _).1 N_11111101000000)
        refine AllReadyIn.cons rfl (fun K hK => ?_) ?_
        · go_simp; exact hK _ _ ((hC _ _ _ _).1 N_11111001100000)
        exact AllReadyIn.nil
      have N_11100111000000 : C 8 #[true, true, true, false, false, true, true, true, false, false, false, false, false, false] { tmps := #[.func (.yield l) #[] #[], .pointer (some ⟨Bs, 0, none⟩), .pointer (some ⟨W.heap.size, 0, none⟩), .pointer (some ⟨k, 0, none⟩), .string s, .func (.func 41) #[] #[.pointer (some ⟨W.heap.size + 1, 0, none⟩)], .agg #[.int .i64 x.val.1, .int .i64 x.val.2.1, .bool true], .pointer (some ⟨k, 2, none⟩), .bool true, .bool true, undef, undef, .pointer (some ⟨k, 0, none⟩), .int .i64 x.val.1, .pointer (some ⟨k, 1, none⟩), undef, undef, undef, undef, undef, undef], defers := [] } W'.drew := by
        refine (hC _ _ _ _).2 (wpAnyIn_ready (rs := [3, 4, 8]) (by kernel_rfl) (by simp) ?_)
        refine AllReadyIn.cons rfl (fun K hK => ?_) ?_
        · go_simp; exact hK _ _ ((hC _ _ _ _).1 N_11110111000000)
        refine AllReadyIn.cons rfl (fun K hK => ?_) ?_
        · go_simp; exact hK _ _ ((hC _ _ _ _).1 N_11101111000000)
        refine AllReadyIn.cons rfl (fun K hK => ?_) ?_
        · go_simp; exact hK _ _ ((hC _ _ _ _).1 N_11100111100000)
        exact AllReadyIn.nil
      have N_11110101000000 : C 8 #[true, true, true, true, false, true, false, true, false, false, false, false, false, false] { tmps := #[.func (.yield l) #[] #[], .pointer (some ⟨Bs, 0, none⟩), .pointer (some ⟨W.heap.size, 0, none⟩), .pointer (some ⟨k, 0, none⟩), .string s, .func (.func 41) #[] #[.pointer (some ⟨W.heap.size + 1, 0, none⟩)], .agg #[.int .i64 x.val.1, .int .i64 x.val.2.1, .bool true], .pointer (some ⟨k, 2, none⟩), .bool true, .bool true, .func (.yield l) #[] #[], undef, .pointer (some ⟨k, 0, none⟩), undef, .pointer (some ⟨k, 1, none⟩), undef, undef, undef, undef, undef, undef], defers := [] } W'.drew := by
        refine (hC _ _ _ _).2 (wpAnyIn_ready (rs := [4, 6, 8]) (by kernel_rfl) (by simp) ?_)
        refine AllReadyIn.cons rfl (fun K hK => ?_) ?_
        · go_simp; exact hK _ _ ((hC _ _ _ _).1 N_11111101000000)
        refine AllReadyIn.cons rfl (fun K hK => ?_) ?_
        · go_simp; exact hK _ _ ((hC _ _ _ _).1 N_11110111000000)
        refine AllReadyIn.cons rfl (fun K hK => ?_) ?_
        · go_simp; exact hK _ _ ((hC _ _ _ _).1 N_11110101100000)
        exact AllReadyIn.nil
      have N_11111100000000 : C 8 #[true, true, true, true, true, true, false, false, false, false, false, false, false, false] { tmps := #[.func (.yield l) #[] #[], .pointer (some ⟨Bs, 0, none⟩), .pointer (some ⟨W.heap.size, 0, none⟩), .pointer (some ⟨k, 0, none⟩), .string s, .func (.func 41) #[] #[.pointer (some ⟨W.heap.size + 1, 0, none⟩)], .agg #[.int .i64 x.val.1, .int .i64 x.val.2.1, .bool true], .pointer (some ⟨k, 2, none⟩), .bool true, .bool true, .func (.yield l) #[] #[], .string s, .pointer (some ⟨k, 0, none⟩), undef, undef, undef, undef, undef, undef, undef, undef], defers := [] } W'.drew := by
        refine (hC _ _ _ _).2 (wpAnyIn_ready (rs := [6, 7]) (by kernel_rfl) (by simp) ?_)
        refine AllReadyIn.cons rfl (fun K hK => ?_) ?_
        · go_simp; exact hK _ _ ((hC _ _ _ _).1 N_11111110000000)
        refine AllReadyIn.cons rfl (fun K hK => ?_) ?_
        · go_simp; exact hK _ _ ((hC _ _ _ _).1 N_11111101000000)
        exact AllReadyIn.nil
      have N_11101101000000 : C 8 #[true, true, true, false, true, true, false, true, false, false, false, false, false, false] { tmps := #[.func (.yield l) #[] #[], .pointer (some ⟨Bs, 0, none⟩), .pointer (some ⟨W.heap.size, 0, none⟩), .pointer (some ⟨k, 0, none⟩), .string s, .func (.func 41) #[] #[.pointer (some ⟨W.heap.size + 1, 0, none⟩)], .agg #[.int .i64 x.val.1, .int .i64 x.val.2.1, .bool true], .pointer (some ⟨k, 2, none⟩), .bool true, .bool true, undef, .string s, .pointer (some ⟨k, 0, none⟩), undef, .pointer (some ⟨k, 1, none⟩), undef, undef, undef, undef, undef, undef], defers := [] } W'.drew := by
        refine (hC _ _ _ _).2 (wpAnyIn_ready (rs := [3, 6, 8]) (by kernel_rfl) (by simp) ?_)
        refine AllReadyIn.cons rfl (fun K hK => ?_) ?_
        · go_simp; exact hK _ _ ((hC _ _ _ _).1 N_11111101000000)
        refine AllReadyIn.cons rfl (fun K hK => ?_) ?_
        · go_simp; exact hK _ _ ((hC _ _ _ _).1 N_11101111000000)
        refine AllReadyIn.cons rfl (fun K hK => ?_) ?_
        · go_simp; exact hK _ _ ((hC _ _ _ _).1 N_11101101100000)
        exact AllReadyIn.nil
      have N_11101001100000 : C 8 #[true, true, true, false, true, false, false, true, true, false, false, false, false, false] { tmps := #[.func (.yield l) #[] #[], .pointer (some ⟨Bs, 0, none⟩), .pointer (some ⟨W.heap.size, 0, none⟩), .pointer (some ⟨k, 0, none⟩), .string s, .func (.func 41) #[] #[.pointer (some ⟨W.heap.size + 1, 0, none⟩)], .agg #[.int .i64 x.val.1, .int .i64 x.val.2.1, .bool true], .pointer (some ⟨k, 2, none⟩), .bool true, .bool true, undef, .string s, undef, undef, .pointer (some ⟨k, 1, none⟩), .int .i64 x.val.2.1, undef, undef, undef, undef, undef], defers := [] } W'.drew := by
        refine (hC _ _ _ _).2 (wpAnyIn_ready (rs := [3, 5]) (by kernel_rfl) (by simp) ?_)
        refine AllReadyIn.cons rfl (fun K hK => ?_) ?_
        · go_simp; exact hK _ _ ((hC _ _ _ _).1 N_11111001100000)
        refine AllReadyIn.cons rfl (fun K hK => ?_) ?_
        · go_simp; exact hK _ _ ((hC _ _ _ _).1 N_11101101100000)
        exact AllReadyIn.nil
      have N_11110001000000 : C 9 #[true, true, true, true, false, false, false, true, false, false, false, false, false, false] { tmps := #[.func (.yield l) #[] #[], .pointer (some ⟨Bs, 0, none⟩), .pointer (some ⟨W.heap.size, 0, none⟩), .pointer (some ⟨k, 0, none⟩), .string s, .func (.func 41) #[] #[.pointer (some ⟨W.heap.size + 1, 0, none⟩)], .agg #[.int .i64 x.val.1, .int .i64 x.val.2.1, .bool true], .pointer (some ⟨k, 2, none⟩), .bool true, .bool true, .func (.yield l) #[] #[], undef, undef, undef, .pointer (some ⟨k, 1, none⟩), undef, undef, undef, undef, undef, undef], defers := [] } W'.drew := by
        refine (hC _ _ _ _).2 (wpAnyIn_ready (rs := [4, 5, 8]) (by kernel_rfl) (by simp) ?_)
        refine AllReadyIn.cons rfl (fun K hK => ?_) ?_
        · go_simp; exact hK _ _ ((hC _ _ _ _).1 N_11111001000000)
        refine AllReadyIn.cons rfl (fun K hK => ?_) ?_
        · go_simp; exact hK _ _ ((hC _ _ _ _).1 N_11110101000000)
        refine AllReadyIn.cons rfl (fun K hK => ?_) ?_
        · go_simp; exact hK _ _ ((hC _ _ _ _).1 N_11110001100000)
        exact AllReadyIn.nil
      have N_11100110000000 : C 9 #[true, true, true, false, false, true, true, false, false, false, false, false, false, false] { tmps := #[.func (.yield l) #[] #[], .pointer (some ⟨Bs, 0, none⟩), .pointer (some ⟨W.heap.size, 0, none⟩), .pointer (some ⟨k, 0, none⟩), .string s, .func (.func 41) #[] #[.pointer (some ⟨W.heap.size + 1, 0, none⟩)], .agg #[.int .i64 x.val.1, .int .i64 x.val.2.1, .bool true], .pointer (some ⟨k, 2, none⟩), .bool true, .bool true, undef, undef, .pointer (some ⟨k, 0, none⟩), .int .i64 x.val.1, undef, undef, undef, undef, undef, undef, undef], defers := [] } W'.drew := by
        refine (hC _ _ _ _).2 (wpAnyIn_ready (rs := [3, 4, 7]) (by kernel_rfl) (by simp) ?_)
        refine AllReadyIn.cons rfl (fun K hK => ?_) ?_
        · go_simp; exact hK _ _ ((hC _ _ _ _).1 N_11110110000000)
        refine AllReadyIn.cons rfl (fun K hK => ?_) ?_
        · go_simp; exact hK _ _ ((hC _ _ _ _).1 N_11101110000000)
        refine AllReadyIn.cons rfl (fun K hK => ?_) ?_
        · go_simp; exact hK _ _ ((hC _ _ _ _).1 N_11100111000000)
        exact AllReadyIn.nil
      have N_11100001100000 : C 9 #[true, true, true, false, false, false, false, true, true, false, false, false, false, false] { tmps := #[.func (.yield l) #[] #[], .pointer (some ⟨Bs, 0, none⟩), .pointer (some ⟨W.heap.size, 0, none⟩), .pointer (some ⟨k, 0, none⟩), .string s, .func (.func 41) #[] #[.pointer (some ⟨W.heap.size + 1, 0, none⟩)], .agg #[.int .i64 x.val.1, .int .i64 x.val.2.1, .bool true], .pointer (some ⟨k, 2, none⟩), .bool true, .bool true, undef, undef, undef, undef, .pointer (some ⟨k, 1, none⟩), .int .i64 x.val.2.1, undef, undef, undef, undef, undef], defers := [] } W'.drew := by
        refine (hC _ _ _ _).2 (wpAnyIn_ready (rs := [3, 4, 5]) (by kernel_rfl) (by simp) ?_)
        refine AllReadyIn.cons rfl (fun K hK => ?_) ?_
        · go_simp; exact hK _ _ ((hC _ _ _ _).1 N_11110001100000)
        refine AllReadyIn.cons rfl (fun K hK => ?_) ?_
        · go_simp; exact hK _ _ ((hC _ _ _ _).1 N_11101001100000)
        refine AllReadyIn.cons rfl (fun K hK => ?_) ?_
        · go_simp; exact hK _ _ ((hC _ _ _ _).1 N_11100101100000)
        exact AllReadyIn.nil
      have N_11111000000000 : C 9 #[true, true, true, true, true, false, false, false, false, false, false, false, false, false] { tmps := #[.func (.yield l) #[] #[], .pointer (some ⟨Bs, 0, none⟩), .pointer (some ⟨W.heap.size, 0, none⟩), .pointer (some ⟨k, 0, none⟩), .string s, .func (.func 41) #[] #[.pointer (some ⟨W.heap.size + 1, 0, none⟩)], .agg #[.int .i64 x.val.1, .int .i64 x.val.2.1, .bool true], .pointer (some ⟨k, 2, none⟩), .bool true, .bool true, .func (.yield l) #[] #[], .string s, undef, undef, undef, undef, undef, undef, undef, undef, undef], defers := [] } W'.drew := by
        refine (hC _ _ _ _).2 (wpAnyIn_ready (rs := [5, 7]) (by kernel_rfl) (by simp) ?_)
        refine AllReadyIn.cons rfl (fun K hK => ?_) ?_
        · go_simp; exact hK _ _ ((hC _ _ _ _).1 N_11111100000000)
        refine AllReadyIn.cons rfl (fun K hK => ?_) ?_
        · go_simp; exact hK _ _ ((hC _ _ _ _).1 N_11111001000000)
        exact AllReadyIn.nil
      have N_11101100000000 : C 9 #[true, true, true, false, true, true, false, false, false, false, false, false, false, false] { tmps := #[.func (.yield l) #[] #[], .pointer (some ⟨Bs, 0, none⟩), .pointer (some ⟨W.heap.size, 0, none⟩), .pointer (some ⟨k, 0, none⟩), .string s, .func (.func 41) #[] #[.pointer (some ⟨W.heap.size + 1, 0, none⟩)], .agg #[.int .i64 x.val.1, .int .i64 x.val.2.1, .bool true], .pointer (some ⟨k, 2, none⟩), .bool true, .bool true, undef, .string s, .pointer (some ⟨k, 0, none⟩), undef, undef, undef, undef, undef, undef, undef, undef], defers := [] } W'.drew := by
        refine (hC _ _ _ _).2 (wpAnyIn_ready (rs := [3, 6, 7]) (by kernel_rfl) (by simp) ?_)
        refine AllReadyIn.cons rfl (fun K hK => ?_) ?_
        · go_simp; exact hK _ _ ((hC _ _ _ _).1 N_11111100000000)
        refine AllReadyIn.cons rfl (fun K hK => ?_) ?_
        · go_simp; exact hK _ _ ((hC _ _ _ _).1 N_11101110000000)
        refine AllReadyIn.cons rfl (fun K hK => ?_) ?_
        · go_simp; exact hK _ _ ((hC _ _ _ _).1 N_11101101000000)
        exact AllReadyIn.nil
      have N_11100101000000 : C 9 #[true, true, true, false, false, true, false, true, false, false, false, false, false, false] { tmps := #[.func (.yield l) #[] #[], .pointer (some ⟨Bs, 0, none⟩), .pointer (some ⟨W.heap.size, 0, none⟩), .pointer (some ⟨k, 0, none⟩), .string s, .func (.func 41) #[] #[.pointer (some ⟨W.heap.size + 1, 0, none⟩)], .agg #[.int .i64 x.val.1, .int .i64 x.val.2.1, .bool true], .pointer (some ⟨k, 2, none⟩), .bool true, .bool true, undef, undef, .pointer (some ⟨k, 0, none⟩), undef, .pointer (some ⟨k, 1, none⟩), undef, undef, undef, undef, undef, undef], defers := [] } W'.drew := by
        refine (hC _ _ _ _).2 (wpAnyIn_ready (rs := [3, 4, 6, 8]) (by kernel_rfl) (by simp) ?_)
        refine AllReadyIn.cons rfl (fun K hK => ?_) ?_
        · go_simp; exact hK _ _ ((hC _ _ _ _).1 N_11110101000000)
        refine AllReadyIn.cons rfl (fun K hK => ?_) ?_
        · go_simp; exact hK _ _ ((hC _ _ _ _).1 N_11101101000000)
        refine AllReadyIn.cons rfl (fun K hK => ?_) ?_
        · go_simp; exact hK _ _ ((hC _ _ _ _).1 N_11100111000000)
        refine AllReadyIn.cons rfl (fun K hK => ?_) ?_
        · go_simp; exact hK _ _ ((hC _ _ _ _).1 N_11100101100000)
        exact AllReadyIn.nil
      have N_11101001000000 : C 9 #[true, true, true, false, true, false, false, true, false, false, false, false, false, false] { tmps := #[.func (.yield l) #[] #[], .pointer (some ⟨Bs, 0, none⟩), .pointer (some ⟨W.heap.size, 0, none⟩), .pointer (some ⟨k, 0, none⟩), .string s, .func (.func 41) #[] #[.pointer (some ⟨W.heap.size + 1, 0, none⟩)], .agg #[.int .i64 x.val.1, .int .i64 x.val.2.1, .bool true], .pointer (some ⟨k, 2, none⟩), .bool true, .bool true, undef, .string s, undef, undef, .pointer (some ⟨k, 1, none⟩), undef, undef, undef, undef, undef, undef], defers := [] } W'.drew := by
        refine (hC _ _ _ _).2 (wpAnyIn_ready (rs := [3, 5, 8]) (by kernel_rfl) (by simp) ?_)
        refine AllReadyIn.cons rfl (fun K hK => ?_) ?_
        · go_simp; exact hK _ _ ((hC _ _ _ _).1 N_11111001000000)
        refine AllReadyIn.cons rfl (fun K hK => ?_) ?_
        · go_simp; exact hK _ _ ((hC _ _ _ _).1 N_11101101000000)
        refine AllReadyIn.cons rfl (fun K hK => ?_) ?_
        · go_simp; exact hK _ _ ((hC _ _ _ _).1 N_11101001100000)
        exact AllReadyIn.nil
      have N_11110100000000 : C 9 #[true, true, true, true, false, true, false, false, false, false, false, false, false, false] { tmps := #[.func (.yield l) #[] #[], .pointer (some ⟨Bs, 0, none⟩), .pointer (some ⟨W.heap.size, 0, none⟩), .pointer (some ⟨k, 0, none⟩), .string s, .func (.func 41) #[] #[.pointer (some ⟨W.heap.size + 1, 0, none⟩)], .agg #[.int .i64 x.val.1, .int .i64 x.val.2.1, .bool true], .pointer (some ⟨k, 2, none⟩), .bool true, .bool true, .func (.yield l) #[] #[], undef, .pointer (some ⟨k, 0, none⟩), undef, undef, undef, undef, undef, undef, undef, undef], defers := [] } W'.drew := by
        refine (hC _ _ _ _).2 (wpAnyIn_ready (rs := [4, 6, 7]) (by kernel_rfl) (by simp) ?_)
        refine AllReadyIn.cons rfl (fun K hK => ?_) ?_
        · go_simp; exact hK _ _ ((hC _ _ _ _).1 N_11111100000000)
        refine AllReadyIn.cons rfl (fun K hK => ?_) ?_
        · go_simp; exact hK _ _ ((hC _ _ _ _).1 N_11110110000000)
        refine AllReadyIn.cons rfl (fun K hK => ?_) ?_
        · go_simp; exact hK _ _ ((hC _ _ _ _).1 N_11110101000000)
        exact AllReadyIn.nil
      have N_11100100000000 : C 10 #[true, true, true, false, false, true, false, false, false, false, false, false, false, false] { tmps := #[.func (.yield l) #[] #[], .pointer (some ⟨Bs, 0, none⟩), .pointer (some ⟨W.heap.size, 0, none⟩), .pointer (some ⟨k, 0, none⟩), .string s, .func (.func 41) #[] #[.pointer (some ⟨W.heap.size + 1, 0, none⟩)], .agg #[.int .i64 x.val.1, .int .i64 x.val.2.1, .bool true], .pointer (some ⟨k, 2, none⟩), .bool true, .bool true, undef, undef, .pointer (some ⟨k, 0, none⟩), undef, undef, undef, undef, undef, undef, undef, undef], defers := [] } W'.drew := by
        refine (hC _ _ _ _).2 (wpAnyIn_ready (rs := [3, 4, 6, 7]) (by kernel_rfl) (by simp) ?_)
        refine AllReadyIn.cons rfl (fun K hK => ?_) ?_
        · go_simp; exact hK _ _ ((hC _ _ _ _).1 N_11110100000000)
        refine AllReadyIn.cons rfl (fun K hK => ?_) ?_
        · go_simp; exact hK _ _ ((hC _ _ _ _).1 N_11101100000000)
        refine AllReadyIn.cons rfl (fun K hK => ?_) ?_
        · go_simp; exact hK _ _ ((hC _ _ _ _).1 N_11100110000000)
        refine AllReadyIn.cons rfl (fun K hK => ?_) ?_
        · go_simp; exact hK _ _ ((hC _ _ _ _).1 N_11100101000000)
        exact AllReadyIn.nil
      have N_11100001000000 : C 10 #[true, true, true, false, false, false, false, true, false, false, false, false, false, false] { tmps := #[.func (.yield l) #[] #[], .pointer (some ⟨Bs, 0, none⟩), .pointer (some ⟨W.heap.size, 0, none⟩), .pointer (some ⟨k, 0, none⟩), .string s, .func (.func 41) #[] #[.pointer (some ⟨W.heap.size + 1, 0, none⟩)], .agg #[.int .i64 x.val.1, .int .i64 x.val.2.1, .bool true], .pointer (some ⟨k, 2, none⟩), .bool true, .bool true, undef, undef, undef, undef, .pointer (some ⟨k, 1, none⟩), undef, undef, undef, undef, undef, undef], defers := [] } W'.drew := by
        refine (hC _ _ _ _).2 (wpAnyIn_ready (rs := [3, 4, 5, 8]) (by kernel_rfl) (by simp) ?_)
        refine AllReadyIn.cons rfl (fun K hK => ?_) ?_
        · go_simp; exact hK _ _ ((hC _ _ _ _).1 N_11110001000000)
        refine AllReadyIn.cons rfl (fun K hK => ?_) ?_
        · go_simp; exact hK _ _ ((hC _ _ _ _).1 N_11101001000000)
        refine AllReadyIn.cons rfl (fun K hK => ?_) ?_
        · go_simp; exact hK _ _ ((hC _ _ _ _).1 N_11100101000000)
        refine AllReadyIn.cons rfl (fun K hK => ?_) ?_
        · go_simp; exact hK _ _ ((hC _ _ _ _).1 N_11100001100000)
        exact AllReadyIn.nil
      have N_11110000000000 : C 10 #[true, true, true, true, false, false, false, false, false, false, false, false, false, false] { tmps := #[.func (.yield l) #[] #[], .pointer (some ⟨Bs, 0, none⟩), .pointer (some ⟨W.heap.size, 0, none⟩), .pointer (some ⟨k, 0, none⟩), .string s, .func (.func 41) #[] #[.pointer (some ⟨W.heap.size + 1, 0, none⟩)], .agg #[.int .i64 x.val.1, .int .i64 x.val.2.1, .bool true], .pointer (some ⟨k, 2, none⟩), .bool true, .bool true, .func (.yield l) #[] #[], undef, undef, undef, undef, undef, undef, undef, undef, undef, undef], defers := [] } W'.drew := by
        refine (hC _ _ _ _).2 (wpAnyIn_ready (rs := [4, 5, 7]) (by kernel_rfl) (by simp) ?_)
        refine AllReadyIn.cons rfl (fun K hK => ?_) ?_
        · go_simp; exact hK _ _ ((hC _ _ _ _).1 N_11111000000000)
        refine AllReadyIn.cons rfl (fun K hK => ?_) ?_
        · go_simp; exact hK _ _ ((hC _ _ _ _).1 N_11110100000000)
        refine AllReadyIn.cons rfl (fun K hK => ?_) ?_
        · go_simp; exact hK _ _ ((hC _ _ _ _).1 N_11110001000000)
        exact AllReadyIn.nil
      have N_11101000000000 : C 10 #[true, true, true, false, true, false, false, false, false, false, false, false, false, false] { tmps := #[.func (.yield l) #[] #[], .pointer (some ⟨Bs, 0, none⟩), .pointer (some ⟨W.heap.size, 0, none⟩), .pointer (some ⟨k, 0, none⟩), .string s, .func (.func 41) #[] #[.pointer (some ⟨W.heap.size + 1, 0, none⟩)], .agg #[.int .i64 x.val.1, .int .i64 x.val.2.1, .bool true], .pointer (some ⟨k, 2, none⟩), .bool true, .bool true, undef, .string s, undef, undef, undef, undef, undef, undef, undef, undef, undef], defers := [] } W'.drew := by
        refine (hC _ _ _ _).2 (wpAnyIn_ready (rs := [3, 5, 7]) (by kernel_rfl) (by simp) ?_)
        refine AllReadyIn.cons rfl (fun K hK => ?_) ?_
        · go_simp; exact hK _ _ ((hC _ _ _ _).1 N_11111000000000)
        refine AllReadyIn.cons rfl (fun K hK => ?_) ?_
        · go_simp; exact hK _ _ ((hC _ _ _ _).1 N_11101100000000)
        refine AllReadyIn.cons rfl (fun K hK => ?_) ?_
        · go_simp; exact hK _ _ ((hC _ _ _ _).1 N_11101001000000)
        exact AllReadyIn.nil
      have N_11100000000000 : C 11 #[true, true, true, false, false, false, false, false, false, false, false, false, false, false] { tmps := #[.func (.yield l) #[] #[], .pointer (some ⟨Bs, 0, none⟩), .pointer (some ⟨W.heap.size, 0, none⟩), .pointer (some ⟨k, 0, none⟩), .string s, .func (.func 41) #[] #[.pointer (some ⟨W.heap.size + 1, 0, none⟩)], .agg #[.int .i64 x.val.1, .int .i64 x.val.2.1, .bool true], .pointer (some ⟨k, 2, none⟩), .bool true, .bool true, undef, undef, undef, undef, undef, undef, undef, undef, undef, undef, undef], defers := [] } W'.drew := by
        refine (hC _ _ _ _).2 (wpAnyIn_ready (rs := [3, 4, 5, 7]) (by kernel_rfl) (by simp) ?_)
        refine AllReadyIn.cons rfl (fun K hK => ?_) ?_
        · go_simp; exact hK _ _ ((hC _ _ _ _).1 N_11110000000000)
        refine AllReadyIn.cons rfl (fun K hK => ?_) ?_
        · go_simp; exact hK _ _ ((hC _ _ _ _).1 N_11101000000000)
        refine AllReadyIn.cons rfl (fun K hK => ?_) ?_
        · go_simp; exact hK _ _ ((hC _ _ _ _).1 N_11100100000000)
        refine AllReadyIn.cons rfl (fun K hK => ?_) ?_
        · go_simp; exact hK _ _ ((hC _ _ _ _).1 N_11100001000000)
        exact AllReadyIn.nil
      have N_11000000000000 : C 12 #[true, true, false, false, false, false, false, false, false, false, false, false, false, false] { tmps := #[.func (.yield l) #[] #[], .pointer (some ⟨Bs, 0, none⟩), .pointer (some ⟨W.heap.size, 0, none⟩), .pointer (some ⟨k, 0, none⟩), .string s, .func (.func 41) #[] #[.pointer (some ⟨W.heap.size + 1, 0, none⟩)], .agg #[.int .i64 x.val.1, .int .i64 x.val.2.1, .bool true], .pointer (some ⟨k, 2, none⟩), .bool true, undef, undef, undef, undef, undef, undef, undef, undef, undef, undef, undef, undef], defers := [] } W'.drew := by
        refine (hC _ _ _ _).2 (wpAnyIn_ready (rs := [2]) (by kernel_rfl) (by simp) ?_)
        refine AllReadyIn.cons rfl (fun K hK => ?_) ?_
        · go_simp; exact hK _ _ ((hC _ _ _ _).1 N_11100000000000)
        exact AllReadyIn.nil
      have N_10000000000000 : C 13 #[true, false, false, false, false, false, false, false, false, false, false, false, false, false] { tmps := #[.func (.yield l) #[] #[], .pointer (some ⟨Bs, 0, none⟩), .pointer (some ⟨W.heap.size, 0, none⟩), .pointer (some ⟨k, 0, none⟩), .string s, .func (.func 41) #[] #[.pointer (some ⟨W.heap.size + 1, 0, none⟩)], .agg #[.int .i64 x.val.1, .int .i64 x.val.2.1, .bool true], .pointer (some ⟨k, 2, none⟩), undef, undef, undef, undef, undef, undef, undef, undef, undef, undef, undef, undef, undef], defers := [] } W'.drew := by
        refine (hC _ _ _ _).2 (wpAnyIn_ready (rs := [1]) (by kernel_rfl) (by simp) ?_)
        refine AllReadyIn.cons rfl (fun K hK => ?_) ?_
        · go_simp; exact hK _ _ ((hC _ _ _ _).1 N_11000000000000)
        exact AllReadyIn.nil
      have N_00000000000000 : C 14 #[false, false, false, false, false, false, false, false, false, false, false, false, false, false] { tmps := #[.func (.yield l) #[] #[], .pointer (some ⟨Bs, 0, none⟩), .pointer (some ⟨W.heap.size, 0, none⟩), .pointer (some ⟨k, 0, none⟩), .string s, .func (.func 41) #[] #[.pointer (some ⟨W.heap.size + 1, 0, none⟩)], .agg #[.int .i64 x.val.1, .int .i64 x.val.2.1, .bool true], undef, undef, undef, undef, undef, undef, undef, undef, undef, undef, undef, undef, undef, undef], defers := [] } W'.drew := by
        refine (hC _ _ _ _).2 (wpAnyIn_ready (rs := [0]) (by kernel_rfl) (by simp) ?_)
        refine AllReadyIn.cons rfl (fun K hK => ?_) ?_
        · go_simp; exact hK _ _ ((hC _ _ _ _).1 N_10000000000000)
        exact AllReadyIn.nil
      exact N_00000000000000
  case done =>
    rintro D ys W' hD hys ⟨hj, y1, y2, y3⟩ hK
    gi_wp2
    refine ⟨by simp, .inl ⟨_, _, rfl, run_takeDeferred hK, ?_⟩⟩
    refine ⟨_, results_none rfl _ _ _, ⟨_, rfl⟩, _, rfl, ?_⟩
    rw [← hys]
    have hsz := y2.lt
    exact hJ _ _ _ hj (by omega) (Priv.of_grown (grownBy_putObj' W' D (.deferred none)) (fun r e => by cases e; exact ⟨by simp at hD; omega, _, hK, rfl⟩) (by omega))
  case stop => exact fun D c pre W hD hp hF _ => hF.elim
end Go.Proofs.YtephhejfkihhgaaDoor
