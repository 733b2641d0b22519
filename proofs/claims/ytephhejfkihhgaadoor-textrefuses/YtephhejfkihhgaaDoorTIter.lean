/- The pieces that text.pieces hands on: the iterator's contract, for every text; text.document. -/
import Derived.Test.YtephhejfkihhgaaDoorTRow
namespace Go.Proofs.YtephhejfkihhgaaDoor
open Go.RowKit Go.Shelf
attribute [local go_sem] Oper.semAt_some

/-- A piece as a value. -/
def spV (p : Sp) : Value := .agg #[.int .i64 p.1, .int .i64 p.2.1, .bool p.2.2]

/-- A piece within so many bytes. -/
abbrev SpI (n : Nat) := { p : Sp // 0 ≤ p.1 ∧ p.1 ≤ p.2.1 ∧ p.2.1 ≤ (n : Int) }
def spL {n : Nat} (l : List (SpI n)) : List Sp := l.map (·.val)
theorem spL_snoc {n : Nat} (l : List (SpI n)) (x : SpI n) : spL (l ++ [x]) = spL l ++ [x.val] := by simp [spL]
/-- One piece more. -/
theorem spans_next (L : List UInt8) (k : Nat) (hne : L.drop k ≠ []) (hv : Lib.validD (L.drop k) = true) : ∃ (M : Nat) (H : Bool), rowB (headB (items (L.drop k))) (items (L.drop k)) = M ∧ headB (items (L.drop k)) = H ∧ 1 ≤ M ∧ M ≤ L.length - k ∧
    spansFrom k (items (L.drop k)) = ((k : Int), (k : Int) + (M : Int), H) :: spansFrom (k + M) (items (L.drop (k + M))) ∧ Lib.validD (L.drop (k + M)) = true := by
  refine ⟨_, _, rfl, rfl, ?_, ?_, ?_, ?_⟩
  · cases h : items (L.drop k) with
    | nil => exact absurd ((items_eq_nil _).1 h) hne
    | cons r xs => exact row_pos r xs
  · have := row_le (L.drop k) hv (headB (items (L.drop k))); rwa [List.length_drop] at this
  · have h2 := row_drop (L.drop k) hv (headB (items (L.drop k)))
    rw [List.drop_drop] at h2
    rw [h2.1]
    cases h : items (L.drop k) with
    | nil => exact absurd ((items_eq_nil _).1 h) hne
    | cons r xs => rw [spans_step]; simp [headB]
  · have h2 := row_drop (L.drop k) hv (headB (items (L.drop k)))
    rw [List.drop_drop] at h2
    exact h2.2

set_option maxRecDepth 100000 in
set_option maxHeartbeats 2000000 in
theorem piter_in (n : Nat) (hn : 1 ≤ n) (l Bs n₀ : Nat) (s : ByteArray) (hs : s.size ≤ 1048576) (hv : Lib.validD s.data.toList = true) (J Jx : List (SpI s.size) → World → Prop)
    (W : World) (hJ : AbidesFrom W.heap.size J)
    (hY : ∀ pre x W1, J pre W1 → pre.length < s.size → YieldAt Fence.wide (n - 1) Tryd.prog l #[spV x.val] W1 fun e W' =>
      (e = .returned (.bool true) ∧ J (pre ++ [x]) W' ∧ Keep n₀ Bs W1 W') ∨ (e = .returned (.bool false) ∧ Jx (pre ++ [x]) W'))
    (hn0 : n₀ ≤ W.heap.size) (hBs : Bs < W.heap.size)
    (hc : W.cell? ⟨Bs, 0, none⟩ = some (.string s)) (h0 : J [] W) :
    CallsIn Fence.wide n Tryd.prog 41 #[.func (.yield l) #[] #[], .pointer (some ⟨Bs, 0, none⟩)] W fun e W' => (∃ v, e = .returned v) ∧
      ((∃ ys, spL ys = spansL s.data.toList ∧ J ys W') ∨ (∃ pre, spL pre <+: spansL s.data.toList ∧ Jx pre W')) := by
  obtain ⟨L, hL⟩ : ∃ L, s.data.toList = L := ⟨_, rfl⟩
  have hLl : L.length = s.size := by rw [← hL, Lib.size_eq]
  rw [hL] at hv ⊢
  have HL := Lib.hid hL; have HLl := Lib.hid hLl; have HV := Lib.hid hv
  clear hL hLl hv
  refine callsIn_of_wp Tryd.func41 rfl trivial ?_ rfl
  simp only [Tryd.ntmps41, List.size_toArray, List.length_cons, List.length_nil, Nat.reduceAdd, Nat.reduceSub, Array.replicate_succ, Array.replicate_zero, List.push_toArray, List.append_toArray, List.nil_append, List.cons_append]
  gi_wp2
  gi_loopw [3] (fun p wr => ∃ (k : Nat) (pre : List (SpI s.size)), p = .int .i64 k ∧ k ≤ s.size ∧ pre.length ≤ k ∧ Hid (spansL L = spL pre ++ spansFrom k (items (L.drop k))) ∧ Hid (Lib.validD (L.drop k) = true) ∧ J pre wr ∧ Keep n₀ Bs W wr)
    (fun p _ => s.size - (intOf p).toNat)
  case atStart => exact ⟨0, [], rfl, Nat.zero_le _, Nat.le_refl _, Lib.hid (by simp [spansL, spL]), Lib.hid (by simpa using HV.out), h0, Keep.refl _ _ _⟩
  case round =>
    obtain ⟨k, pre, rfl, hk, hpk, HI, HVk, hJs, hKB⟩ := hrel
    have hB := hKB.1
    have hcell : wr.cell? ⟨Bs, 0, none⟩ = some (.string s) := (World.cell?_of_block hKB.2).trans hc
    by_cases hlt : k < s.size
    · have hne : L.drop k ≠ [] := by rw [← HL.out]; exact drop_ne s k hlt
      obtain ⟨M, H, e1, e2, hM1, hM2, e3, e4⟩ := spans_next L k hne HVk.out
      rw [HLl.out] at hM2
      have ht : (s.extract k s.size).data.toList = L.drop k := by rw [Lib.extract_to_end, HL.out]
      have c := row_any (s.extract k s.size) wr (by unfold maxLen; simp; omega) (by simp; omega) (by rw [ht]; exact HVk.out)
      rw [ht, e2] at c
      rw [e2] at e1
      rw [e1] at c
      have C := Lib.hid c
      have E3 := Lib.hid e3; have E4 := Lib.hid e4
      clear c e1 e2 e3 e4 ht hne
      obtain ⟨X, hX⟩ : ∃ X : SpI s.size, X.val = ((k : Int), (k : Int) + (M : Int), H) := ⟨⟨((k : Int), (k : Int) + (M : Int), H), by dsimp only; omega⟩, rfl⟩
      have HX := Lib.hid hX
      clear hX
      gi_wp2_with (refine ⟨trivial, ?_⟩; gi_at_call 42; refine (callsIn_wide.2 C.out).mono ?_; rintro e w1 ⟨rfl, hb1⟩; have hJ1 : J pre w1 := hJ _ _ _ none hJs (grown_none hb1) (fun _ h => by cases h); have hB1 : Keep n₀ Bs W w1 := hKB.trans (Keep.of_below hb1 (Nat.le_trans hn0 hB.size) (Nat.lt_of_lt_of_le hBs hB.size)); obtain ⟨fn, tmps, assign, body, hy, hR⟩ := hY pre X w1 hJ1 (by omega); rw [HX.out] at hy; simp only [spV] at hy)
      refine hR.mono ?_
      rintro e W3 (⟨rfl, hJ3, hk3⟩ | ⟨rfl, hJx3⟩)
      · gi_wp2
        go_roundw
        case rel => exact ⟨k + M, pre ++ [X], by go_num, by omega, by simp; omega, Lib.hid (by rw [HI.out, E3.out, spL_snoc, HX.out]; simp), E4, hJ3, hB1.trans hk3⟩
        case measure => simp [intOf]; omega
      · gi_wp2
        refine bodyPost_ret (results_none rfl _ _ _) rfl ?_
        exact ⟨⟨_, rfl⟩, .inr ⟨pre ++ [X], by rw [HI.out, E3.out, spL_snoc, HX.out]; simp [List.prefix_append_right_inj], hJx3⟩⟩
    · obtain rfl : k = s.size := by omega
      gi_wp2
      go_end0
      exact ⟨⟨_, rfl⟩, .inl ⟨pre, by rw [HI.out, List.drop_of_length_le (by rw [HLl.out]; exact Nat.le_refl _), items_nil]; simp [spansFrom], hJs⟩⟩

/-- pieces(s): s is boxed, and the function value captures the box. -/
theorem pieces_any (s : ByteArray) (w : World) :
    Calls Tryd.prog 26 #[.string s] w fun e w' => e = .returned (.func (.func 41) #[] #[.pointer (some ⟨w.heap.size, 0, none⟩)]) ∧ w' = w.alloc (.cells #[.string s] 9) := by
  go_enter Tryd.func26, Tryd.ntmps26
  go_wp2
  go_ret
  exact ⟨rfl, rfl⟩

theorem piterI_stops (n : Nat) (hn : 1 ≤ n) (Bs n₀ : Nat) (s : ByteArray) (hs : s.size ≤ 1048576) (hv : Lib.validD s.data.toList = true) (w : World) (hn0 : n₀ ≤ w.heap.size) (hBs : Bs < w.heap.size)
    (hc : w.cell? ⟨Bs, 0, none⟩ = some (.string s)) :
    SeqStopsK Fence.wide n Tryd.prog 41 #[.pointer (some ⟨Bs, 0, none⟩)] (fun x : SpI s.size => #[spV x.val]) (Keep n₀ Bs) (fun ys => spL ys = spansL s.data.toList) (fun pre => spL pre <+: spansL s.data.toList) s.size w :=
  fun l J Jx W hW hJ _ hY h0 => piter_in n hn l Bs n₀ s hs hv J Jx W hJ hY (Nat.le_trans hn0 hW.size) (Nat.lt_of_lt_of_le hBs hW.size) ((hW.cell (p := ⟨Bs, 0, none⟩) hBs).trans hc) h0
theorem piter_stops (n : Nat) (hn : 1 ≤ n) (Bs n₀ : Nat) (s : ByteArray) (hs : s.size ≤ 1048576) (hv : Lib.validD s.data.toList = true) (w : World) (hn0 : n₀ ≤ w.heap.size) (hBs : Bs < w.heap.size)
    (hc : w.cell? ⟨Bs, 0, none⟩ = some (.string s)) :
    SeqStopsK Fence.wide n Tryd.prog 41 #[.pointer (some ⟨Bs, 0, none⟩)] (fun x : Sp => #[spV x]) (Keep n₀ Bs) (fun ys => ys = spansL s.data.toList) (fun pre => pre <+: spansL s.data.toList) s.size w :=
  fun l J Jx W hW hJ hJx hY h0 => (piterI_stops n hn Bs n₀ s hs hv w hn0 hBs hc l (fun pre => J (spL pre)) (fun pre => Jx (spL pre)) W hW (fun p A B row => hJ (spL p) A B row) (fun p A B row => hJx (spL p) A B row)
    (fun pre x W1 hp hl => by have := hY (spL pre) x.val W1 hp (by simpa [spL] using hl); rwa [← spL_snoc] at this) h0).mono (by
      rintro e W' ⟨hv, (⟨ys, h1, h2⟩ | ⟨pre, h1, h2⟩)⟩
      · exact ⟨hv, .inl ⟨spL ys, h1, h2⟩⟩
      · exact ⟨hv, .inr ⟨spL pre, h1, h2⟩⟩)

set_option maxRecDepth 100000 in
set_option maxHeartbeats 1000000 in
theorem document_any (s : ByteArray) (w : World) (h : Okw w) :
    Calls Tryd.prog 25 #[.string s] w fun e w' => e = .returned (.int .i64 (docErr s.data.toList)) ∧ Below w.heap.size w w' := by
  have hsz := Lib.size_eq s
  unfold docErr
  rw [← hsz]
  by_cases hA : 1048576 < s.size
  · rw [if_pos hA]
    have hA' : (1048576 : Int) < (s.size : Int) := by omega
    clear hsz
    go_enter Tryd.func25, Tryd.ntmps25
    go_wp2
    go_ret
    exact ⟨rfl, Below.refl _ _⟩
  · rw [if_neg hA]
    have c := decode_runs s w (by omega) h.1 h.2
    have hA' : ¬ (1048576 : Int) < (s.size : Int) := by omega
    have he : decErr s.data.toList = if Lib.validD s.data.toList then 0 else 3 := rfl
    rw [← he]
    obtain ⟨er, her⟩ : ∃ er, decErr s.data.toList = er := ⟨_, rfl⟩
    rw [her] at c ⊢
    have C := Lib.hid c
    clear c he her hsz
    go_enter Tryd.func25, Tryd.ntmps25
    go_wp2_with fail
    refine C.out.mono ?_
    rintro e w1 ⟨A, c, rfl, hr, hb⟩
    go_wp2
    go_ret
    exact ⟨rfl, hb⟩
end Go.Proofs.YtephhejfkihhgaaDoor
