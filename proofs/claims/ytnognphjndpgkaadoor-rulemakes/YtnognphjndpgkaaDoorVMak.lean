/- RuleMakes, walked over what rule's functions and the document's answer. -/
import Derived.Test.YtnognphjndpgkaaDoorPk10
import Derived.Test.YtnognphjndpgkaaDoorRRef2
namespace Go.Proofs.YtnognphjndpgkaaDoor
open Go.RowKit Go.Shelf
set_option linter.unusedSimpArgs false
set_option linter.unusedVariables false

set_option maxRecDepth 100000 in
set_option maxHeartbeats 8000000 in
theorem ruleMakes_walk (u : Value) (l : List Blk) (least : Int) (w : World) (h : Okw w) (hu : BRuns w u l) (hz : szM l) :
    Calls Tryd.prog 5 #[u, .int .i64 least] w (RetTrue w) := by
  have hcm : l.length ≤ maxLen := by
    obtain ⟨_, c, _, h1, h2, _⟩ := hu
    exact Nat.le_trans h1 h2.1
  have m1 := fun (hg : l.length ≤ 200 ∧ ∀ b ∈ l, b.1.size + b.2.1.size ≤ 100) w hO hu => rmake_any u l least w hO hu (by have := hg.1; omega) (fun b hb => by have := hg.2 b hb; omega)
  have m2 := fun (hg : l.length ≤ 200 ∧ ∀ b ∈ l, b.1.size + b.2.1.size ≤ 100) w hu => refMake_any u l least w hu (by have := hg.1; omega) (fun b hb => by have := hg.2 b hb; omega)
  obtain ⟨er, her⟩ : ∃ z, mkE l least = z := ⟨_, rfl⟩
  obtain ⟨X, hX⟩ : ∃ z, mkS l least = z := ⟨_, rfl⟩
  simp only [her, hX] at m1 m2
  clear her hX
  obtain ⟨A, c, e⟩ := hu.slice
  obtain ⟨n, hn⟩ : ∃ n, l.length = n := ⟨_, rfl⟩
  obtain ⟨nx, hnx⟩ : ∃ n, X.length = n := ⟨_, rfl⟩
  rw [hn] at e hcm
  subst e
  simp only [hn] at m1 m2
  unfold maxLen at hcm
  have HU := Lib.hid hu; have M1 := Lib.hid m1; have M2 := Lib.hid m2; have HNX := Lib.hid hnx; have HN := Lib.hid hn; have HZ := Lib.hid hz
  clear hu m1 m2 hnx hn hz
  go_enter Tryd.func5, Tryd.ntmps5
  go_wp2_with fail
  refine (alive7_any _ h).mono ?_
  rintro e w1 ⟨rfl, b1⟩
  have U1 := Lib.hid (HU.out.below b1); have K1 : Hid (Okw w1) := Lib.hid (h.below b1)
  have B1 := Lib.hid b1; clear b1
  by_cases hbig : 200 < n
  · have hb1 : (200 : Int) < (n : Int) := by omega
    go_wp2
    go_ret
    exact ⟨rfl, B1.out⟩
  have hb1 : ¬ (200 : Int) < (n : Int) := by omega
  go_wp2
  go_loopw [18] (fun s18 wr => ∃ k : Nat, k ≤ n ∧ s18 = .int .i64 k ∧ Hid (∀ j x, j < k → l[j]? = some x → x.1.size + x.2.1.size ≤ 100) ∧ Hid (Below w1.heap.size w1 wr)) (fun s18 _ => n - (RowKit.intOf s18).toNat)
  case atStart => exact ⟨0, Nat.zero_le _, rfl, Lib.hid (fun j x hj => by omega), Lib.hid (Below.refl _ _)⟩
  case round =>
    obtain ⟨k, hkn, rfl, HS, BW⟩ := hrel
    by_cases hk : k < n
    · have k1 : (k : Int) < (n : Int) := by omega
      obtain ⟨⟨p1, p2, p3⟩, hp⟩ : ∃ p, l[k]? = some p := ⟨_, List.getElem?_eq_getElem (by rw [HN.out]; exact hk)⟩
      obtain ⟨b, o, rfl, _, hc⟩ := (U1.out.below BW.out).cells HN.out (by omega)
      obtain ⟨g0, g1, g2⟩ := blk_cells hc hp
      simp only at g0 g1 g2
      have hz1 := HZ.out _ (List.mem_of_getElem? hp)
      simp only at hz1
      have HP := Lib.hid hp
      have wr1 : IntKind.i64.wrap ((p1.size : Int) + (p2.size : Int)) = (p1.size : Int) + (p2.size : Int) := by rw [IntKind.wrap_i64]; omega
      have hal : Hid (Below w1.heap.size w1 (wr.alloc (.cells #[.string p1, .string p2, .int .i64 p3] 40))) := Lib.hid (BW.out.alloc BW.out.size _)
      clear hc hp
      by_cases h1 : 100 < p1.size + p2.size
      · have h1' : (100 : Int) < (p1.size : Int) + (p2.size : Int) := by omega
        have BE := Lib.hid (B1.out.trans (hal.out.mono B1.out.size))
        go_wp2
        go_ret
        exact ⟨rfl, BE.out⟩
      · have h1' : ¬ (100 : Int) < (p1.size : Int) + (p2.size : Int) := by omega
        have HS1 : Hid (∀ j x, j < k + 1 → l[j]? = some x → x.1.size + x.2.1.size ≤ 100) := Lib.hid (fun j x hj hx => by
          rcases Nat.lt_or_ge j k with h | h
          · exact HS.out j x h hx
          · obtain rfl : j = k := by omega
            rw [HP.out] at hx
            obtain rfl := Option.some.inj hx
            simp only; omega)
        go_wp2
        exact ⟨⟨k + 1, by omega, by go_num, HS1, hal⟩, by simp [RowKit.intOf]; omega⟩
    · obtain rfl : k = n := by omega
      have hg : Hid (k ≤ 200 ∧ ∀ b ∈ l, b.1.size + b.2.1.size ≤ 100) := Lib.hid ⟨by omega, fun b hb => by
        obtain ⟨j, hj⟩ := List.getElem?_of_mem hb
        exact HS.out j b (by rw [← HN.out]; exact (List.getElem?_eq_some_iff.1 hj).1) hj⟩
      have M1' := Lib.hid (M1.out hg.out); have M2' := Lib.hid (M2.out hg.out)
      have U2 := Lib.hid (U1.out.below BW.out); have K2 : Hid (Okw wr) := Lib.hid (K1.out.below BW.out)
      have B2 := Lib.hid (B1.out.trans (BW.out.mono B1.out.size))
      clear M1 M2 hg HS
      go_wp2_with fail
      refine (M1'.out _ K2.out U2.out).mono ?_
      rintro e w3 ⟨va, rfl, r3, b3⟩
      obtain ⟨Aa, ka, e3⟩ := r3.slice
      rw [HNX.out] at e3
      subst e3
      have R3 := Lib.hid r3
      have U3 := Lib.hid (U2.out.below b3)
      have B3 := Lib.hid (B2.out.trans (b3.mono B2.out.size)); clear b3 r3
      go_wp2_with fail
      refine (M2'.out _ U3.out).mono ?_
      rintro e w4 ⟨vb, rfl, r4, b4⟩
      obtain ⟨Ab, kb, e4⟩ := r4.slice
      rw [HNX.out] at e4
      subst e4
      have cs := refSame7_any _ _ X X w4 (R3.out.below b4) r4
      rw [decide_eq_true rfl] at cs
      have CS := Lib.hid cs
      have B4 := Lib.hid (B3.out.trans (b4.mono B3.out.size)); clear b4 r4 cs
      go_wp2_with fail
      refine CS.out.mono ?_
      rintro e w5 ⟨rfl, k5, rfl⟩
      go_wp2
      go_ret
      exact ⟨ret_bool (by simp), below_draws B4.out _⟩
end Go.Proofs.YtnognphjndpgkaaDoor
