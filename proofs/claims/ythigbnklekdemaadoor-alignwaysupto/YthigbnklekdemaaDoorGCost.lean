/- align.Cost: how many steps aren't matches. -/
import Derived.Test.YthigbnklekdemaaDoorACheck
namespace Go.Proofs.YthigbnklekdemaaDoor
open Go.RowKit Go.Shelf

set_option maxRecDepth 100000 in
set_option maxHeartbeats 4000000 in
theorem cost_any (u : Value) (l : List St) (w : World) (hu : StRuns w u l) :
    Calls Tryd.prog 19 #[u] w fun e w' => e = .returned (.int .i64 (stC l)) ∧ Below w.heap.size w w' := by
  obtain ⟨A, c, rfl, hxc, ⟨hxm, _⟩, hxx⟩ := hu
  unfold maxLen at hxm
  obtain ⟨n, hn⟩ : ∃ n, l.length = n := ⟨_, rfl⟩
  rw [hn] at hxc hxx ⊢
  have HN := Lib.hid hn; clear hn
  have HX := Lib.hid hxx; clear hxx
  go_enter Tryd.func19, Tryd.ntmps19
  go_wp2
  go_loopg [3, 8] n (fun g s3 s8 wr => ∃ k : Nat, s8 = .int .i64 k ∧ s3 = .int .i64 (stC (l.take k)) ∧ k ≤ n ∧ n - k ≤ g ∧ Hid (Below w.heap.size w wr))
  case atStart => exact ⟨0, rfl, rfl, by omega, by omega, Lib.hid (Below.refl _ _)⟩
  case round =>
    obtain ⟨k, rfl, rfl, hk, hg, HB⟩ := hrel
    have hc := stC_len (l.take k)
    rw [List.length_take] at hc
    have HC := Lib.hid (stC_take l k)
    obtain ⟨q, hq⟩ : ∃ q, stC (l.take k) = q := ⟨_, rfl⟩
    rw [hq] at hc HC
    have HQ := Lib.hid hq
    rw [hq]
    clear hq
    by_cases h : k < n
    · have h' : (k : Int) < (n : Int) := by omega
      obtain ⟨b, o, rfl, hb, hcell⟩ := HX.out (by omega)
      obtain ⟨e0, e1, e2⟩ := hcell k h
      clear hcell
      obtain ⟨⟨kd, ra, rb⟩, hp⟩ : ∃ p, l.getD k (0, 0, 0) = p := ⟨_, rfl⟩
      have HC2 := Lib.hid (HC.out (by rw [HN.out]; exact h)); clear HC
      rw [hp] at e0 e1 e2 HC2
      simp only at e0 e1 e2 HC2
      have f0 : wr.cell? ⟨b, o + k * 3, none⟩ = some (.int .i64 kd) := (HB.out.cell (show b < w.heap.size from hb)).trans e0
      have f1 : wr.cell? ⟨b, o + k * 3 + 1, none⟩ = some (.int .i32 ra) := (HB.out.cell (show b < w.heap.size from hb)).trans e1
      have f2 : wr.cell? ⟨b, o + k * 3 + 2, none⟩ = some (.int .i32 rb) := (HB.out.cell (show b < w.heap.size from hb)).trans e2
      clear e0 e1 e2 hp
      by_cases hz : kd = 0
      · have HC3 := Lib.hid (HC2.out.trans (by rw [if_pos hz])); clear HC2
        subst hz
        go_wp2
        go_roundg (n - (k + 1))
        case measure => omega
        case rel => exact ⟨k + 1, rfl, by rw [HC3.out]; rfl, by omega, by omega, Lib.hid (HB.out.alloc HB.out.size _)⟩
      · have HC3 := Lib.hid (HC2.out.trans (by rw [if_neg hz])); clear HC2
        go_wp2
        go_roundg (n - (k + 1))
        case measure => omega
        case rel => exact ⟨k + 1, rfl, by rw [HC3.out]; go_num, by omega, by omega, Lib.hid (HB.out.alloc HB.out.size _)⟩
    · obtain rfl : k = n := by omega
      go_wp2
      go_ret
      exact ⟨ret_int (by rw [← HQ.out, List.take_of_length_le (by rw [HN.out]; exact Nat.le_refl _)]), HB.out⟩
end Go.Proofs.YthigbnklekdemaaDoor
