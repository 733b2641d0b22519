/- The law TextJoins, walked: whether any spans part any text, and it with other texts in the tokens' places, or the error, are the document's. -/
import Derived.Test.YtephhejfkihhgaaDoorTRef3
namespace Go.Proofs.YtephhejfkihhgaaDoor
open Go.RowKit Go.Shelf

/-- The lengths of the first k texts, none counted above 5000. -/
def sumN (s : ByteArray) (ts : List ByteArray) : Nat → Nat
  | 0 => s.size
  | k + 1 => sumN s ts k + min (ts.getD k ⟨#[]⟩).size 5000
theorem sumN_le (s : ByteArray) (ts : List ByteArray) (k : Nat) : sumN s ts k ≤ s.size + k * 5000 := by
  induction k with
  | zero => simp [sumN]
  | succ k ih => simp only [sumN]; have := Nat.min_le_right (ts.getD k ⟨#[]⟩).size 5000; omega
theorem sumN_mono (s : ByteArray) (ts : List ByteArray) (k m : Nat) (h : k ≤ m) : sumN s ts k ≤ sumN s ts m := by
  induction m with
  | zero => obtain rfl : k = 0 := by omega
            exact Nat.le_refl _
  | succ m ih =>
    by_cases e : k = m + 1
    · rw [e]; exact Nat.le_refl _
    · have := ih (by omega); simp only [sumN]; omega
theorem sumN_small (s : ByteArray) (ts : List ByteArray) (h : sumN s ts ts.length ≤ 4000) : s.size ≤ 4000 ∧ ∀ t ∈ ts, t.size ≤ 1048576 := by
  refine ⟨Nat.le_trans (sumN_mono s ts 0 ts.length (Nat.zero_le _)) h, fun t ht => ?_⟩
  obtain ⟨j, hj, rfl⟩ := List.getElem_of_mem ht
  have h1 := sumN_mono s ts (j + 1) ts.length hj
  have h2 : ts.getD j ⟨#[]⟩ = ts[j] := by simp [List.getD_eq_getElem?_getD, hj]
  simp only [sumN, h2] at h1
  omega

set_option maxRecDepth 100000 in
set_option maxHeartbeats 8000000 in
theorem joins_walk (s : ByteArray) (lv tv : Value) (own : Bool) (l : List Sp) (ts : List ByteArray) (w : World) (h : Okw w) (hs : s.size ≤ 140737488351232) (hl : SRuns w lv l) (ht : TRuns w tv ts) (hm : ts.length * 16 ≤ 140737488351232) :
    Calls Tryd.prog 4 #[.agg #[.string s, lv, tv, .bool own]] w (RetTrue w) := by
  have hl0 := hl
  have ht0 := ht
  obtain ⟨A, c, rfl, hxc, ⟨hxm, _⟩, _⟩ := hl
  obtain ⟨A2, c2, rfl, hyc, ⟨hym, _⟩, hyy⟩ := ht
  unfold maxLen at hxm hym
  have hsm := sumN_small s ts
  obtain ⟨n, hn⟩ : ∃ n, l.length = n := ⟨_, rfl⟩
  obtain ⟨m, hmm⟩ : ∃ m, ts.length = m := ⟨_, rfl⟩
  rw [hn] at hxc hl0 ⊢
  rw [hmm] at hyc hyy hm ht0 hsm ⊢
  have Hn := Lib.hid hn; have Hm := Lib.hid hmm
  have HY := Lib.hid hyy
  have HSM := Lib.hid hsm
  have HSL := Lib.hid (sumN_le s ts)
  have hbox : Below w.heap.size w (w.alloc (.cells #[.string s, .slice A n c, .slice A2 m c2, .bool own] 34)) := (Below.refl _ _).alloc (Nat.le_refl _) _
  have C0 := Lib.hid (alive2_any _ (h.below hbox))
  have hsize : (w.alloc (.cells #[.string s, .slice A n c, .slice A2 m c2, .bool own] 34)).heap.size = w.heap.size + 1 := by simp
  have k0 : (w.alloc (.cells #[.string s, .slice A n c, .slice A2 m c2, .bool own] 34)).cell? ⟨w.heap.size, 0, none⟩ = some (.string s) := by rw [cell_of_row _ _ _ _ _ _ (heap_alloc_new w _)]; rfl
  have k1 : (w.alloc (.cells #[.string s, .slice A n c, .slice A2 m c2, .bool own] 34)).cell? ⟨w.heap.size, 1, none⟩ = some (.slice A n c) := by rw [cell_of_row _ _ _ _ _ _ (heap_alloc_new w _)]; rfl
  have k2 : (w.alloc (.cells #[.string s, .slice A n c, .slice A2 m c2, .bool own] 34)).cell? ⟨w.heap.size, 2, none⟩ = some (.slice A2 m c2) := by rw [cell_of_row _ _ _ _ _ _ (heap_alloc_new w _)]; rfl
  have k3 : (w.alloc (.cells #[.string s, .slice A n c, .slice A2 m c2, .bool own] 34)).cell? ⟨w.heap.size, 3, none⟩ = some (.bool own) := by rw [cell_of_row _ _ _ _ _ _ (heap_alloc_new w _)]; rfl
  clear hn hmm hyy hsm
  go_enter Tryd.func4, Tryd.ntmps4
  go_wp2_with fail
  refine C0.out.mono ?_
  rintro e w0 ⟨rfl, hb0⟩
  have m0 := (hb0.cell (p := ⟨w.heap.size, 0, none⟩) (by simp)).trans k0
  have m1 := (hb0.cell (p := ⟨w.heap.size, 1, none⟩) (by simp)).trans k1
  have m2 := (hb0.cell (p := ⟨w.heap.size, 2, none⟩) (by simp)).trans k2
  have m3 := (hb0.cell (p := ⟨w.heap.size, 3, none⟩) (by simp)).trans k3
  have hB0 : Below w.heap.size w w0 := hbox.trans (hb0.mono hbox.size)
  clear k0 k1 k2 k3 hsize hbox hb0 C0
  go_wp2
  go_quiet (fail)
  have hB1 : Below w.heap.size w (w0.drewN nq) := below_draws hB0 nq
  obtain ⟨w1, hw1⟩ : ∃ w1, w0.drewN nq = w1 := ⟨_, rfl⟩
  rw [hw1] at hB1 ⊢
  clear hw1 m0 m1 m2 m3 hB0
  have h1 := h.below hB1
  have hl1 := hl0.below hB1
  have ht1 := ht0.below hB1
  go_wp2
  go_loopw [7, 28] (fun s7 s28 wr => ∃ k : Nat, k ≤ m ∧ s28 = .int .i64 k ∧ s7 = .int .i64 (sumN s ts k) ∧ w1 = wr) (fun _ s28 _ => m - (intOf s28).toNat)
  case atStart => exact ⟨0, Nat.zero_le _, rfl, rfl, rfl⟩
  case round =>
    obtain ⟨k, hk, rfl, rfl, rfl⟩ := hrel
    by_cases hlt : k < m
    · obtain ⟨b, o, rfl, hb, hc1⟩ := HY.out (by omega)
      have e1 := (hB1.cell (p := ⟨b, o + k, none⟩) hb).trans (hc1 k hlt)
      have t1 : sumN s ts (k + 1) = sumN s ts k + min (ts.getD k ⟨#[]⟩).size 5000 := rfl
      have t2 := HSL.out k
      obtain ⟨X, hX⟩ : ∃ X, ts.getD k ⟨#[]⟩ = X := ⟨_, rfl⟩
      rw [hX] at e1 t1
      obtain ⟨d, hd⟩ : ∃ d, sumN s ts k = d := ⟨_, rfl⟩
      rw [hd] at t1 t2 ⊢
      have T1 := Lib.hid t1
      have i1 : (k : Int) < (m : Int) := by omega
      clear hX hd hc1 t1
      go_wp2
      go_roundw
      case rel => exact ⟨k + 1, by omega, by go_num, congrArg (Value.int .i64) (by rw [T1.out]; omega), by first | rfl | trivial⟩
      case measure => simp [intOf]; omega
    · obtain rfl : m = k := by omega
      have t2 := HSL.out m
      have hsmm := HSM.out
      obtain ⟨d, hd⟩ : ∃ d, sumN s ts m = d := ⟨_, rfl⟩
      rw [hd] at t2 hsmm ⊢
      by_cases hbig : 4000 < d
      · have i2 : (4000 : Int) < (d : Int) := by omega
        clear hsmm
        go_wp2
        go_ret
        exact ⟨rfl, hB1⟩
      have i2 : decide ((4000 : Int) < (d : Int)) = false := by simp; omega
      by_cases hln : 500 < n
      · have i3 : (500 : Int) < (n : Int) := by omega
        clear hsmm
        go_wp2
        go_ret
        exact ⟨rfl, hB1⟩
      have i3 : decide ((500 : Int) < (n : Int)) = false := by simp; omega
      obtain ⟨hs4, hts⟩ := hsmm (by omega)
      clear hsmm HSM HSL hd t2
      cases own
      · obtain ⟨Z, hZ⟩ : ∃ Z, jnS s l ts = Z := ⟨_, rfl⟩
        obtain ⟨er, her⟩ : ∃ er, jnE s l ts = er := ⟨_, rfl⟩
        obtain ⟨bc, hbc⟩ : ∃ bc, checkB s.data.toList l = bc := ⟨_, rfl⟩
        have j1 := fun w u v hw hu hv => join_any s u v l ts w hw hu hv hts
        have j2 := fun w u v hu hv => refJoin_any s u v l ts w hu hv hts
        have c1 := fun w u hw hu => check_any s u l w hw hu
        have c2 := fun w u hu => refCheck_any s u l w hu
        rw [hZ, her] at j1 j2
        rw [hbc] at c1 c2
        have J1 := Lib.hid j1; have J2 := Lib.hid j2; have K1 := Lib.hid c1; have K2 := Lib.hid c2
        clear j1 j2 c1 c2 hZ her hbc
        go_wp2_with fail
        refine (J1.out _ _ _ h1 hl1 ht1).mono ?_
        rintro e w5 ⟨rfl, hb5⟩
        have hb5' : Below w1.heap.size w1 w5 := hb5
        have h5 := Okw.below h1 hb5'
        go_wp2_with fail
        refine (J2.out _ _ _ (hl1.below hb5') (ht1.below hb5')).mono ?_
        rintro e w6 ⟨rfl, hb6⟩
        have h6 := h5.below hb6
        have hb56 : Below w1.heap.size w1 w6 := hb5'.trans (hb6.mono hb5'.size)
        go_wp2_with fail
        refine (K1.out _ _ h6 (hl1.below hb56)).mono ?_
        rintro e w7 ⟨rfl, hb7⟩
        have hb57 : Below w1.heap.size w1 w7 := hb56.trans (hb7.mono hb56.size)
        go_wp2_with fail
        refine (K2.out _ _ (hl1.below hb57)).mono ?_
        rintro e w8 ⟨rfl, hb8⟩
        have hb58 : Below w1.heap.size w1 w8 := hb57.trans (hb8.mono hb57.size)
        have q1 : (er == er) = true := by simp
        have q2 : (bc == bc) = true := by simp
        go_wp2
        go_ret
        exact ⟨by simp, hB1.trans (hb58.mono hB1.size)⟩
      · obtain ⟨ds, hds⟩ : ∃ ds, docSpans s.data.toList = ds := ⟨_, rfl⟩
        obtain ⟨de, hde⟩ : ∃ de, docErr s.data.toList = de := ⟨_, rfl⟩
        have cs := refSpans_any s w1
        rw [hds, hde] at cs
        obtain ⟨dn, hdn⟩ : ∃ dn, ds.length = dn := ⟨_, rfl⟩
        rw [hdn] at cs
        have CS := Lib.hid cs
        clear cs hds hde hdn
        obtain ⟨Z, hZ⟩ : ∃ Z, jnS s ds ts = Z := ⟨_, rfl⟩
        obtain ⟨er, her⟩ : ∃ er, jnE s ds ts = er := ⟨_, rfl⟩
        obtain ⟨bc, hbc⟩ : ∃ bc, checkB s.data.toList ds = bc := ⟨_, rfl⟩
        have j1 := fun w u v hw hu hv => join_any s u v ds ts w hw hu hv hts
        have j2 := fun w u v hu hv => refJoin_any s u v ds ts w hu hv hts
        have c1 := fun w u hw hu => check_any s u ds w hw hu
        have c2 := fun w u hu => refCheck_any s u ds w hu
        rw [hZ, her] at j1 j2
        rw [hbc] at c1 c2
        have J1 := Lib.hid j1; have J2 := Lib.hid j2; have K1 := Lib.hid c1; have K2 := Lib.hid c2
        clear j1 j2 c1 c2 hZ her hbc
        go_wp2_with fail
        refine CS.out.mono ?_
        rintro e w2 ⟨A3, c3, rfl, hr2, hb2⟩
        have h2 := h1.below hb2
        have ht2 := ht1.below hb2
        have hB2 : Below w.heap.size w w2 := hB1.trans (hb2.mono hB1.size)
        clear CS
        go_wp2_with fail
        refine (J1.out _ _ _ h2 hr2 ht2).mono ?_
        rintro e w5 ⟨rfl, hb5⟩
        have hb5' : Below w2.heap.size w2 w5 := hb5
        have h5 := Okw.below h2 hb5'
        go_wp2_with fail
        refine (J2.out _ _ _ (hr2.below hb5') (ht2.below hb5')).mono ?_
        rintro e w6 ⟨rfl, hb6⟩
        have h6 := h5.below hb6
        have hb56 : Below w2.heap.size w2 w6 := hb5'.trans (hb6.mono hb5'.size)
        go_wp2_with fail
        refine (K1.out _ _ h6 (hr2.below hb56)).mono ?_
        rintro e w7 ⟨rfl, hb7⟩
        have hb57 : Below w2.heap.size w2 w7 := hb56.trans (hb7.mono hb56.size)
        go_wp2_with fail
        refine (K2.out _ _ (hr2.below hb57)).mono ?_
        rintro e w8 ⟨rfl, hb8⟩
        have hb58 : Below w2.heap.size w2 w8 := hb57.trans (hb8.mono hb57.size)
        have q1 : (er == er) = true := by simp
        have q2 : (bc == bc) = true := by simp
        go_wp2
        go_ret
        exact ⟨by simp, hB2.trans (hb58.mono hB2.size)⟩
end Go.Proofs.YtephhejfkihhgaaDoor
