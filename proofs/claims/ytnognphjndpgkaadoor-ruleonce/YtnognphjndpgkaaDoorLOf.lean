/- A number's digits, as errataref03.of makes them. -/
import Derived.Test.YtnognphjndpgkaaDoorLRow
namespace Go.Proofs.YtnognphjndpgkaaDoor
open Go.RowKit

set_option maxRecDepth 100000 in
set_option maxHeartbeats 4000000 in
theorem of_any (n : Nat) (hn : n ≤ 2147483648) (w : World) :
    Calls Tryd.prog 91 #[.int .i64 n] w fun e w' => ∃ v l, e = .returned v ∧ NRuns w' v l ∧ Can l ∧ valD l = n ∧ Below w.heap.size w w' := by
  go_enter Tryd.func91, Tryd.ntmps91
  go_wp2
  go_loopg [0, 3] n (fun g s0 s3 wr => ∃ (m : Nat) (pre : List Nat), s0 = .int .i64 m ∧ m ≤ g ∧ pre.length + m ≤ n ∧
    Hid (wr.ownsRow w.heap.size 3 1 s3 pre.length (pre.map fun x : Nat => Value.int .i64 (x : Int))) ∧ Hid (Below w.heap.size w wr) ∧ Hid (valD pre + 10000 ^ pre.length * m = n) ∧ Hid (∀ j, pre.getD j 0 < 10000) ∧ Hid (m = 0 → ∀ j, j + 1 = pre.length → pre.getD j 0 ≠ 0))
  case atStart => exact ⟨n, [], rfl, Nat.le_refl _, by simp, Lib.hid (World.ownsRow_nil _ _ _ _), Lib.hid (Below.refl _ _), Lib.hid (by simp [valD]), Lib.hid (fun j => by simp), Lib.hid (fun _ j hj => by simp at hj)⟩
  case round =>
    obtain ⟨m, pre, rfl, hg, hlen, HO, HB, HV, HD, HZ⟩ := hrel
    by_cases h : m = 0
    · subst h
      go_wp2
      go_ret
      exact ⟨_, rfl, pre, NRuns.of_own HO.out, ⟨HD.out, HZ.out (by simp)⟩, by simpa using HV.out, HB.out⟩
    · have h' : (0 : Int) < (m : Int) := by omega
      obtain ⟨d, hd⟩ : ∃ d : Nat, (m : Int) % 10000 = (d : Int) := ⟨m % 10000, by omega⟩
      obtain ⟨q, hq⟩ : ∃ q : Nat, (m : Int) / 10000 = (q : Int) := ⟨m / 10000, by omega⟩
      have HM : Hid (m = d + 10000 * q ∧ d < 10000) := Lib.hid (by omega)
      obtain ⟨v2, w2, hrun, hown, hb2⟩ := append_oneL wr w.heap.size u3 pre.length _ HO.out d HB.out.size (by omega)
      have HR := Lib.hid hrun; clear hrun
      go_wp2_with (at_builtin; refine wpList_append_runL (.tmp 6) (.tmp 9) 97 _ _ _ _ HR.out rfl rfl rfl rfl ?_)
      go_roundg q
      case measure => have := HM.out; omega
      case rel =>
        have hm := HM.out
        refine ⟨q, pre ++ [d], rfl, Nat.le_refl _, by simp; omega, Lib.hid (by simpa using hown), Lib.hid (HB.out.trans hb2), Lib.hid ?_, Lib.hid ?_, Lib.hid ?_⟩
        · have hv := HV.out
          rw [valD_append, List.length_append, List.length_singleton, Nat.pow_succ, Nat.mul_assoc, Nat.add_assoc, ← Nat.mul_add]
          simp only [valD, Nat.mul_zero, Nat.add_zero]
          rw [← hm.1]
          exact hv
        · intro j
          rw [List.getD_eq_getElem?_getD, List.getElem?_append]
          split
          · have := HD.out j
            rwa [List.getD_eq_getElem?_getD] at this
          · cases hj : j - pre.length with
            | zero => simpa using hm.2
            | succ k => simp
        · intro hq0 j hj
          have : j = pre.length := by simp at hj; omega
          subst this
          simp
          omega
end Go.Proofs.YtnognphjndpgkaaDoor
