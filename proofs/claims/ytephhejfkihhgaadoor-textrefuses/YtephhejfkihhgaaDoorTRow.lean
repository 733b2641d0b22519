/- text.row, text.document: what each answers. -/
import Derived.Test.YtephhejfkihhgaaDoorJoin
import Derived.Test.YtephhejfkihhgaaDoorTPlain
import Derived.Lib.OthersKept
import Derived.WalkMore
import Derived.Lib.RuneCount
import Derived.Lib.RuneCountTail
namespace Go.Proofs.YtephhejfkihhgaaDoor
open Go.RowKit Go.Shelf

theorem decode_at (s : ByteArray) (pos : Nat) : Utf8.decode s pos = Lib.decodeL (s.data.toList.drop pos) := by
  rw [Lib.decodeL_N, Lib.decode_N]
  simp [List.getD_eq_getElem?_getD, List.getElem?_drop]
/-- The sort of a text's first rune. -/
def headB (xs : List Int) : Bool := match xs with | [] => false | r :: _ => letterB r
theorem items_next (l : List UInt8) (hne : l ≠ []) (hv : Lib.validD l = true) : items l = ((Lib.decodeL l).1 : Int) :: items (l.drop (Lib.decodeL l).2) ∧ Lib.validD (l.drop (Lib.decodeL l).2) = true ∧ (Lib.decodeL l).2 = rl ((Lib.decodeL l).1 : Int) := by
  have hb : badB l = false := by
    cases h : badB l with
    | false => rfl
    | true => rw [valid_step l hne, h] at hv; simp at hv
  have h1 := items_step l hne
  have h2 := valid_step l hne
  rw [hb] at h1 h2
  simp only [Bool.false_eq_true, if_false] at h1 h2
  refine ⟨h1, by rw [← h2]; exact hv, ?_⟩
  obtain ⟨r, t, hr, rfl⟩ := good_form l hne hb
  rw [decode_encode r t hr]
  simp only
  have h0 := valid_nonneg hr
  unfold rl
  rw [Int.toNat_of_nonneg h0]
theorem encL_snoc (pre : List Int) (r : Int) : (encL (pre ++ [r])).length = (encL pre).length + rl r := by
  rw [encL_append, List.length_append]; simp [encL, rl]
theorem encL_pos (pre : List Int) (h : 0 < (encL pre).length) : ∃ q t, pre = q :: t := by
  cases pre with
  | nil => simp [encL] at h
  | cons q t => exact ⟨q, t, rfl⟩
theorem encL_zero (pre : List Int) (h : (encL pre).length = 0) : pre = [] := by
  cases pre with
  | nil => rfl
  | cons q t => rw [encL_cons, List.length_append] at h; have := encodeRune_len q; omega

set_option maxRecDepth 100000 in
set_option maxHeartbeats 2000000 in
theorem row_any (s : ByteArray) (w : World) (_hs : s.size ≤ maxLen) (hpos : 0 < s.size) (hv : Lib.validD s.data.toList = true) :
    Calls Tryd.prog 42 #[.string s] w fun e w' => e = .returned (.tuple #[.int .i64 (rowB (headB (items s.data.toList)) (items s.data.toList)), .bool (headB (items s.data.toList))]) ∧ Below w.heap.size w w' := by
  obtain ⟨L, hL⟩ : ∃ L, s.data.toList = L := ⟨_, rfl⟩
  have hLl : L.length = s.size := by rw [← hL, Lib.size_eq]
  rw [hL] at hv ⊢
  obtain ⟨T, hT⟩ : ∃ T, headB (items L) = T := ⟨_, rfl⟩
  rw [hT]
  obtain ⟨K, hK⟩ : ∃ K, rowB T (items L) = K := ⟨_, rfl⟩
  rw [hK]
  have HL := Lib.hid hL; have HLl := Lib.hid hLl; have HT := Lib.hid hT; have HK := Lib.hid hK; have HV := Lib.hid hv
  clear hL hLl hT hK hv
  go_enter Tryd.func42, Tryd.ntmps42
  go_wp2
  refine wp_scope_straight ?_
  go_wp2_with (refine wp_label ?_)
  go_loopw [4, 5] (fun s4 s5 wr => ∃ (pos : Nat) (b : Bool) (pre : List Int), s4 = .int .i64 s.size ∧ s5 = .bool b ∧ wr.heap[w.heap.size]? = some (.stringIter s pos) ∧ Below w.heap.size w wr ∧ pos ≤ s.size ∧ Hid (pos = (encL pre).length ∧ items L = pre ++ items (L.drop pos) ∧ Lib.validD (L.drop pos) = true ∧ ∀ q ∈ pre, letterB q = b)) (fun _ _ wr => s.size - wr.iterPos w.heap.size)
  case atStart => exact ⟨0, false, [], rfl, rfl, heap_alloc_new _ _, (Below.refl _ w).alloc (Nat.le_refl _) _, Nat.zero_le _, Lib.hid ⟨by simp [encL], by simp, by simpa using HV.out, by simp⟩⟩
  case round =>
    obtain ⟨pos, b, pre, rfl, rfl, hit, hB, hps, HI⟩ := hrel
    obtain ⟨W1, rfl⟩ : ∃ W1, W1 = wr := ⟨wr, rfl⟩
    by_cases hp : pos < s.size
    · have hnx : ∀ ty, (Instr.next (.pointer (some ⟨w.heap.size, 0, none⟩)) true ty).run Tryd.prog W1 = _ := fun ty => Lib.run_next_any_at W1 w.heap.size s pos ty hit hp
      have hit2 := Lib.iterAt_heap W1 w.heap.size s pos (pos + (Utf8.decode s pos).2) hit
      have hB2 := Lib.below_iterAt hB (k := w.heap.size) (Nat.le_refl _) s (pos + (Utf8.decode s pos).2)
      have hne : L.drop pos ≠ [] := by rw [← HL.out]; exact drop_ne s pos hp
      obtain ⟨g1, g2, g3, g4⟩ := HI.out
      obtain ⟨n1, n2, n3⟩ := items_next _ hne g3
      have hdec := decode_at s pos
      rw [HL.out] at hdec
      have hle := Lib.decodeL_le _ hne
      rw [List.length_drop, HLl.out] at hle
      rw [hdec] at hnx hit2 hB2
      rw [List.drop_drop] at n1 n2
      obtain ⟨R, hR⟩ : ∃ R, (Lib.decodeL (L.drop pos)).1 = R := ⟨_, rfl⟩
      obtain ⟨M, hM⟩ : ∃ M, (Lib.decodeL (L.drop pos)).2 = M := ⟨_, rfl⟩
      rw [hR, hM] at hnx
      rw [hM] at hit2 hB2 hle n2
      rw [hR, hM] at n1 n3
      have hM1 : 1 ≤ M := by rw [n3]; exact rl_pos _
      have cl := letter_any (R : Int)
      obtain ⟨lb, hlb⟩ : ∃ lb, letterB (R : Int) = lb := ⟨_, rfl⟩
      rw [hlb] at cl
      have CL := Lib.hid cl
      have HLB := Lib.hid hlb
      have N1 := Lib.hid n1; have N2 := Lib.hid n2; have N3 := Lib.hid n3
      have G1 := Lib.hid g1; have G2 := Lib.hid g2; have G4 := Lib.hid g4
      clear cl hlb n1 n2 n3 g1 g2 g3 g4 hdec hR hM hne
      have hmeas : ∀ Wx : World, Wx.heap[w.heap.size]? = some (.stringIter s (pos + M)) → s.size - Wx.iterPos w.heap.size < s.size - W1.iterPos w.heap.size := by
        intro Wx hx; simp only [World.iterPos, hx, hit]; omega
      by_cases h0 : pos = 0
      · subst h0
        rw [Nat.zero_add] at hit2 hB2
        simp only [Nat.zero_add] at hmeas hnx N1 N2 
        obtain rfl : pre = [] := encL_zero pre G1.out.symm
        go_wp2_with (go_at_call 22; refine (CL.out _).mono ?_; rintro e w' ⟨rfl, rfl⟩)
        go_roundw
        case rel => exact ⟨M, lb, [(R : Int)], rfl, rfl, hit2, hB2, by omega, Lib.hid ⟨by rw [N3.out]; simp [encL, rl], by rw [G2.out, N1.out]; simp, N2.out, by simpa using HLB.out⟩⟩
        case measure => exact hmeas _ hit2
      · have h1 : ((pos : Int) == 0) = false := by simp; omega
        obtain ⟨q, t, rfl⟩ := encL_pos pre (by rw [← G1.out]; omega)
        by_cases hlb : lb = b
        · have h2 : (lb == b) = true := by simp [hlb]
          go_wp2_with (go_at_call 22; refine (CL.out _).mono ?_; rintro e w' ⟨rfl, rfl⟩)
          go_roundw
          case rel => exact ⟨pos + M, b, (q :: t) ++ [(R : Int)], rfl, rfl, hit2, hB2, by omega, Lib.hid ⟨by rw [encL_snoc, N3.out, G1.out], by rw [G2.out, N1.out]; simp, N2.out, fun x hx => by
            rcases List.mem_append.1 hx with h | h
            · exact G4.out x h
            · simp at h; rw [h, HLB.out, hlb]⟩⟩
          case measure => exact hmeas _ hit2
        · have h2 : (lb == b) = false := by simpa using hlb
          go_wp2_with (go_at_call 22; refine (CL.out _).mono ?_; rintro e w' ⟨rfl, rfl⟩)
          rw [Exit.noGoto_ret]; go_ret2
          have hq := G4.out q (by simp)
          have hTb : T = b := by rw [← HT.out, G2.out]; simp [headB, hq]
          have hKp := (rowB_at b (q :: t) (R : Int) (items (L.drop (pos + M))) G4.out (by rw [HLB.out]; exact hlb)).1
          rw [← N1.out, ← G2.out, ← G1.out, ← hTb, HK.out] at hKp
          exact ⟨by rw [hKp, hTb]; rfl, hB2⟩
    · have hnx : ∀ ty, (Instr.next (.pointer (some ⟨w.heap.size, 0, none⟩)) true ty).run Tryd.prog W1 = _ := fun ty => Lib.run_next_end_at W1 w.heap.size s pos ty hit hp
      obtain rfl : pos = s.size := by omega
      go_wp2
      rw [Exit.noGoto_ret]; go_ret2
      obtain ⟨g1, g2, g3, g4⟩ := HI.out
      obtain ⟨q, t, rfl⟩ := encL_pos pre (by rw [← g1]; omega)
      rw [List.drop_of_length_le (by rw [HLl.out]; exact Nat.le_refl _), items_nil, List.append_nil] at g2
      have hq := g4 q (by simp)
      have hTb : T = b := by rw [← HT.out, g2]; simp [headB, hq]
      have hKp := (rowB_all b (q :: t) g4).1
      rw [← g2, ← hTb, HK.out, g2, ← g1] at hKp
      exact ⟨by rw [hKp, hTb]; rfl, hB⟩
end Go.Proofs.YtephhejfkihhgaaDoor
