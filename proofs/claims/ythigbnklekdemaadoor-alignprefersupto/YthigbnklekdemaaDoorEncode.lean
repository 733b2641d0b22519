/- runes.Encode: what it answers, for every list of numbers. -/
import Derived.Test.YthigbnklekdemaaDoorLetters
import Derived.Test.YthigbnklekdemaaDoorWrite
namespace Go.Proofs.YthigbnklekdemaaDoor
open Go.RowKit Go.Shelf

def allRunes (l : List Int) : Bool := l.all Lib.validRune
def encErr (l : List Int) : Int := if allRunes l then 0 else 3
def encS (l : List Int) : List UInt8 := if allRunes l then encL l else []

theorem encL_take (l : List Int) (k : Nat) (h : k < l.length) : encL (l.take (k + 1)) = encL (l.take k) ++ Lib.encodeRune (l.getD k 0) := by
  rw [List.take_succ_eq_append_getElem h, encL_append]
  simp [encL, List.getD_eq_getElem?_getD, h]
theorem all_take (l : List Int) (k : Nat) (h : k < l.length) : allRunes (l.take (k + 1)) = (allRunes (l.take k) && Lib.validRune (l.getD k 0)) := by
  unfold allRunes
  rw [List.take_succ_eq_append_getElem h, List.all_append, List.getD_eq_getElem?_getD, List.getElem?_eq_getElem h]
  simp
theorem all_no (l : List Int) (k : Nat) (h : k < l.length) (hv : Lib.validRune (l.getD k 0) = false) : allRunes l = false := by
  unfold allRunes; rw [List.all_eq_false]
  exact ⟨l.getD k 0, by simp [List.getD_eq_getElem?_getD, h], fun h' => by rw [hv] at h'; cases h'⟩

set_option maxRecDepth 100000 in
set_option maxHeartbeats 2000000 in
theorem encode_any (u : Value) (l : List Int) (w : World) (hu : Runs w u l) (hlen : l.length * 4 + 4 ≤ 140737488355328) (hwf : ∀ x ∈ l, -2147483648 ≤ x ∧ x ≤ 2147483647) :
    Calls Tryd.prog 29 #[u] w fun e w' => e = .returned (.tuple #[.string ⟨(encS l).toArray⟩, .int .i64 (encErr l)]) ∧ Below w.heap.size w w' := by
  obtain ⟨A, c, rfl, hxc, ⟨hxm, _⟩, hxx⟩ := hu
  unfold maxLen at hxm
  obtain ⟨n, hn⟩ : ∃ n, l.length = n := ⟨_, rfl⟩
  rw [hn] at hxc hxx hlen ⊢
  have Hn := Lib.hid hn; clear hn
  have HX := Lib.hid hxx; clear hxx
  have HW := Lib.hid hwf; clear hwf
  have hfresh := Lib.IsBuilderF.of (Lib.fresh_isBuilder 69 5 w)
  obtain ⟨es, hes⟩ : ∃ es, encS l = es := ⟨_, rfl⟩
  obtain ⟨ee, hee⟩ : ∃ ee, encErr l = ee := ⟨_, rfl⟩
  rw [hes, hee]
  have Hes := Lib.hid hes; clear hes
  have Hee := Lib.hid hee; clear hee
  go_enter Tryd.func29, Tryd.ntmps29
  go_wp2
  go_loopw [9] (fun i wr => ∃ k : Nat, k ≤ n ∧ i = .int .i64 k ∧ Lib.IsBuilderF 69 5 w.heap.size w.heap.size (Lib.byteCells (encL (l.take k))) wr ∧ Below w.heap.size w wr ∧ Hid (allRunes (l.take k) = true)) (fun i _ => n - (intOf i).toNat)
  case atStart => exact ⟨0, Nat.zero_le _, rfl, by simpa [encL, Lib.byteCells] using hfresh, (Below.refl _ w).alloc (Nat.le_refl _) _, Lib.hid (by simp [allRunes])⟩
  case round =>
    obtain ⟨k, hk, rfl, hbd, hB, HA⟩ := hrel
    clear hfresh
    by_cases hlt : k < n
    · obtain ⟨b, o, rfl, hb, hc1⟩ := HX.out (by omega)
      have e1 := (hB.cell (p := ⟨b, o + k, none⟩) hb).trans (hc1 k hlt)
      have hr := HW.out (l.getD k 0) (by simp [List.getD_eq_getElem?_getD, Hn.out, hlt])
      have t1 := encL_take l k (by rw [Hn.out]; exact hlt)
      have t2 := all_take l k (by rw [Hn.out]; exact hlt)
      have t3 := all_no l k (by rw [Hn.out]; exact hlt)
      obtain ⟨r, hr1⟩ : ∃ r, l.getD k 0 = r := ⟨_, rfl⟩
      rw [hr1] at e1 hr t1 t2 t3
      have T1 := Lib.hid t1; have T2 := Lib.hid t2; have T3 := Lib.hid t3
      clear t1 t2 t3 hr1 hc1
      obtain ⟨r1, r2⟩ := hr
      have i1 : (k : Int) < (n : Int) := by omega
      have c1 := Tryd.utf8_ValidRune r wr
      cases hv : Lib.validRune r
      · rw [hv] at c1
        have C1 := Lib.hid c1
        have HV := Lib.hid hv
        clear c1 hv
        go_wp2_with (go_at_call 37; refine C1.out.mono ?_; rintro e w' ⟨rfl, rfl⟩)
        go_ret2
        have h0 := T3.out HV.out
        exact ⟨by rw [← Hes.out, ← Hee.out]; simp [encS, encErr, h0], hB⟩
      · rw [hv] at c1
        have C1 := Lib.hid c1
        have HV := Lib.hid hv
        clear c1 hv
        have hle : (Lib.byteCells (encL (l.take k))).length + 4 ≤ 140737488355328 := by
          rw [Lib.byteCells_length]; have := encL_le (l.take k); rw [List.length_take] at this; omega
        have C2 := Lib.hid (writeRune_k w.heap.size w.heap.size _ r r1 r2 wr hbd hle hB.size)
        clear hle
        go_wp2_with (first | (go_at_call 37; refine C1.out.mono ?_; rintro e w' ⟨rfl, rfl⟩) | (go_at_call 38; refine C2.out.mono ?_; rintro e w1 ⟨rfl, hb1, hw1⟩))
        go_roundw
        case rel => exact ⟨k + 1, by omega, by go_num, by rw [T1.out, Lib.byteCells_append, Lib.byteCells_encodeRune]; exact hb1, hB.trans hw1, Lib.hid (by rw [T2.out, HA.out, HV.out]; rfl)⟩
        case measure => simp [intOf]; omega
    · obtain rfl : n = k := by omega
      have C := Lib.hid (Tryd.Builder_String_any_f w.heap.size w.heap.size _ wr hbd hB.size)
      go_wp2_with (go_at_call 39; refine C.out.mono ?_; rintro e w1 ⟨rfl, _, hw1⟩)
      go_ret2
      have ht : l.take n = l := List.take_of_length_le (by rw [Hn.out]; exact Nat.le_refl _)
      have h0 : allRunes l = true := by have := HA.out; rwa [ht] at this
      exact ⟨by rw [← Hes.out, ← Hee.out, ht]; simp [encS, encErr, h0], hB.trans hw1⟩
end Go.Proofs.YthigbnklekdemaaDoor
