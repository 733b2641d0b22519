/- The law RunesEncode, walked: any numbers' text, or the error, whether any is a letter, which of any two rows comes first, are the document's. -/
import Derived.Test.YtnacllcajadnoaaDoorRefEncode
import Derived.Test.YtnacllcajadnoaaDoorCompare
namespace Go.Proofs.YtnacllcajadnoaaDoor
open Go.RowKit Go.Shelf

set_option maxRecDepth 100000 in
set_option maxHeartbeats 2000000 in
theorem encodeLaw_small (A B : Option Addr) (n c m d : Nat) (xs ys : List Int) (r : Int) (w : World) (h : Okw w) (hN : n ≤ 3000) (hM : m ≤ 3000)
    (hx : Runs w (.slice A n c) xs) (hy : Runs w (.slice B m d) ys) (t : ByteArray) (er z : Int) (lb : Bool)
    (e1 : ∀ w, Runs w (.slice A n c) xs → Calls Tryd.prog 17 #[.slice A n c] w fun e w' => e = .returned (.tuple #[.string t, .int .i64 er]) ∧ Below w.heap.size w w')
    (e2 : ∀ w, Runs w (.slice A n c) xs → Calls Tryd.prog 18 #[.slice A n c] w fun e w' => e = .returned (.tuple #[.string t, .int .i64 er]) ∧ Below w.heap.size w w')
    (l1 : ∀ w, Calls Tryd.prog 19 #[.int .i32 r] w fun e w' => e = .returned (.bool lb) ∧ w = w')
    (l2 : ∀ w, Calls Tryd.prog 20 #[.int .i32 r] w fun e w' => e = .returned (.bool lb) ∧ w = w')
    (hz : Hid (cmpL xs ys = z)) :
    Calls Tryd.prog 4 #[.slice A n c, .slice B m d, .int .i32 r] w (RetTrue w) := by
  have C0 := Lib.hid (alive_any w h)
  have hA' : decide ((3000 : Int) < (n : Int)) = false := by simp; omega
  have hB' : decide ((3000 : Int) < (m : Int)) = false := by simp; omega
  have q1 : (er == er) = true := by simp
  have q2 : (lb == lb) = true := by simp
  have q3 : (z == z) = true := by simp
  have q4 : (t.toList == t.toList) = true := by simp
  go_enter Tryd.func4, Tryd.ntmps4
  go_wp2_with (go_at_call 9; refine C0.out.mono ?_; rintro e w0 ⟨rfl, hb0⟩)
  have hx0 := hx.below hb0
  refine (e1 _ hx0).mono ?_
  rintro e w1 ⟨rfl, hb1⟩
  have hx1 := hx0.below hb1
  go_wp2_with fail
  refine (e2 _ hx1).mono ?_
  rintro e w2 ⟨rfl, hb2⟩
  have hx2 := hx1.below hb2
  have hy2 := ((hy.below hb0).below hb1).below hb2
  have c3 := compare_any _ _ _ _ w2 hx2 hy2
  have c4 := refCompare_any _ _ _ _ w2 hx2 hy2
  rw [hz.out] at c3 c4
  have C3 := Lib.hid c3
  have C4 := Lib.hid c4
  have hB2 : Below w.heap.size w w2 := hb0.trans ((hb1.trans (hb2.mono hb1.size)).mono hb0.size)
  clear c3 c4 hx hy hx0 hx1 hx2 hy2 hb0 hb1 hb2
  go_wp2_with fail
  refine (l1 _).mono ?_
  rintro e w3 ⟨rfl, rfl⟩
  go_wp2_with fail
  refine (l2 _).mono ?_
  rintro e w3 ⟨rfl, rfl⟩
  go_wp2_with fail
  refine C3.out.mono ?_
  rintro e w3 ⟨rfl, rfl⟩
  go_wp2_with fail
  refine C4.out.mono ?_
  rintro e w3 ⟨rfl, hd⟩
  go_wp2
  go_ret
  exact ⟨by simp, hB2.trans (hd.below _)⟩

set_option maxRecDepth 100000 in
set_option maxHeartbeats 1000000 in
theorem encodeLaw_walk (u : Value) (xs : List Int) (v : Value) (ys : List Int) (r : Int) (w : World) (h : Okw w) (hu : Runs w u xs ∧ ∀ x ∈ xs, -2147483648 ≤ x ∧ x ≤ 2147483647) (hv : Runs w v ys ∧ ∀ x ∈ ys, -2147483648 ≤ x ∧ x ≤ 2147483647) (_ : (Lit.int .i32 r).wf = true) :
    Calls Tryd.prog 4 #[u, v, .int .i32 r] w (RetTrue w) := by
  obtain ⟨hx, hwf⟩ := hu
  obtain ⟨hy, _⟩ := hv
  have hx' := hx
  have hy' := hy
  obtain ⟨A, c, rfl, hlc, ⟨hcm, _⟩, _⟩ := hx'
  obtain ⟨B, d, rfl, hld, ⟨hdm, _⟩, _⟩ := hy'
  obtain ⟨n, hn⟩ : ∃ n, xs.length = n := ⟨_, rfl⟩
  obtain ⟨m, hm⟩ : ∃ m, ys.length = m := ⟨_, rfl⟩
  have hlen : xs.length * 4 + 4 ≤ 140737488355328 ∨ 3000 < n := by omega
  have E1 := fun (hl : xs.length * 4 + 4 ≤ 140737488355328) (u : Value) (w : World) (hr : Runs w u xs) => encode_any u xs w hr hl hwf
  rw [hn] at hx hlc ⊢
  rw [hm] at hy hld ⊢
  unfold maxLen at hcm hdm
  by_cases hA : 3000 < n
  · have C0 := Lib.hid (alive_any w h)
    clear hn hm E1 hwf hx hy hlen
    go_enter Tryd.func4, Tryd.ntmps4
    go_wp2_with (go_at_call 9; refine C0.out.mono ?_; rintro e w0 ⟨rfl, hb0⟩)
    go_ret
    exact ⟨rfl, hb0⟩
  by_cases hB : 3000 < m
  · have hA' : decide ((3000 : Int) < (n : Int)) = false := by simp; omega
    have C0 := Lib.hid (alive_any w h)
    clear hn hm E1 hwf hx hy hlen
    go_enter Tryd.func4, Tryd.ntmps4
    go_wp2_with (go_at_call 9; refine C0.out.mono ?_; rintro e w0 ⟨rfl, hb0⟩)
    go_ret
    exact ⟨rfl, hb0⟩
  have hl : xs.length * 4 + 4 ≤ 140737488355328 := by omega
  exact encodeLaw_small A B n c m d xs ys r w h (by omega) (by omega) hx hy _ _ _ (letterB r) (fun w hr => E1 hl _ w hr) (fun w hr => refEncode_any _ xs w hr hl) (letter_any r) (refLetter_any r) (Lib.hid rfl)
end Go.Proofs.YtnacllcajadnoaaDoor
