/- errataref01.Encode: the document's text of any numbers. -/
import Derived.Test.YthigbnklekdemaaDoorRefDecode
import Derived.Test.YthigbnklekdemaaDoorEncode
namespace Go.Proofs.YthigbnklekdemaaDoor
open Go.RowKit Go.Shelf

theorem info8 : (Tryd.prog.info? 5).map (fun i => (i.zero, i.size, i.bytes)) = some (some (.int .u8 0), 1, 1) := by kernel_rfl
theorem bcells_one (l : List UInt8) : ∀ u ∈ Lib.byteCells l, u.oneCell' = true := by
  intro u hu
  obtain ⟨b, _, rfl⟩ := List.mem_map.1 hu
  rfl
/-- append(v, x...) of a row of bytes of the call's own and a new block of bytes. -/
theorem append_bytes (w : World) (base : Nat) (v : Value) (n : Nat) (xs : List Value) (hown : w.ownsRow base 5 1 v n xs) (l : List UInt8) (hbase : base ≤ w.heap.size) (hlen : n + l.length ≤ 140737488355328) :
    ∃ v' w', (Builtin.append_ #[67, 67] 67 #[v, .slice (some ⟨w.heap.size, 0, none⟩) l.length l.length]).run Tryd.prog (w.alloc (.cells (Lib.byteCells l).toArray 5)) = .ok v' w' ∧ w'.ownsRow base 5 1 v' (n + l.length) (xs ++ Lib.byteCells l) ∧ Below w.heap.size w (w.alloc (.cells (Lib.byteCells l).toArray 5)) ∧ (w.alloc (.cells (Lib.byteCells l).toArray 5)).grownBy w' v.ownBlock := by
  obtain ⟨i0, hi, hz0, hz1, hz2⟩ := info_parts info8
  have hba : Below w.heap.size w (w.alloc (.cells (Lib.byteCells l).toArray 5)) := (Below.refl _ _).alloc (Nat.le_refl _) _
  obtain ⟨v', w', hrun, h2, h3, _, _⟩ := run_append_own_at (P := Tryd.prog) (w.alloc (.cells (Lib.byteCells l).toArray 5)) base 67 67 5 i0 _ 1 1 Tryd.underlying67 hi hz0 hz1 hz2 rfl (by decide) v n xs (own_below hown hba) ⟨w.heap.size, 0, none⟩ l.length l.length (Lib.byteCells l) (by simp [Lib.byteCells_length])
    (fun j u hj => by
      rw [addr_add, cell_of_row _ _ _ _ _ _ (heap_alloc_new w _)]
      simpa using hj) (bcells_one l) (by unfold maxLen; omega) (by omega) (Nat.le_trans hbase hba.size)
  exact ⟨v', w', hrun, h2, hba, h3⟩
/-- string(b) of a row of bytes of the call's own. -/
theorem conv_own (w : World) (base : Nat) (v : Value) (l : List UInt8) (n : Nat) (h : w.ownsRow base 5 1 v n (Lib.byteCells l)) : (convert 67 9 v).run Tryd.prog w = .ok (.string ⟨l.toArray⟩) w := by
  have hn : l.length = n := by have := h.1; simpa [Lib.byteCells_length] using this
  rcases h.2 with ⟨rfl, h0⟩ | ⟨g, cap, cur, rfl, _, hg, hle, _, hsz, htk⟩
  · have hl : l = [] := List.eq_nil_of_length_eq_zero (by omega)
    subst hl
    rw [run_convert_bytes_string w 67 9 5 none 0 0 Tryd.underlying67 Tryd.underlying5 Tryd.underlying9]
    rfl
  · subst hn
    refine run_convert_bytes_back (P := Tryd.prog) w 67 9 5 ⟨g, 0, none⟩ cap l Tryd.underlying67 Tryd.underlying5 Tryd.underlying9 (fun j hj => ?_)
    rw [addr_add, cell_of_row w g (0 + j) cur 5 (0, 0) hg]
    have h2 : (cur.toList.take (l.length * 1))[j]? = some (Value.int .u8 (l[j].toNat : Int)) := by
      rw [htk]; simp [Lib.byteCells, hj]
    rw [List.getElem?_take, if_pos (by omega)] at h2
    simpa using h2

set_option maxRecDepth 100000 in
set_option maxHeartbeats 2000000 in
theorem refEncode_any (u : Value) (l : List Int) (w : World) (hu : Runs w u l) (hlen : l.length * 4 + 4 ≤ 140737488355328) :
    Calls Tryd.prog 40 #[u] w fun e w' => e = .returned (.tuple #[.string ⟨(encS l).toArray⟩, .int .i64 (encErr l)]) ∧ Below w.heap.size w w' := by
  obtain ⟨A, c, rfl, hxc, ⟨hxm, _⟩, hxx⟩ := hu
  unfold maxLen at hxm
  obtain ⟨n, hn⟩ : ∃ n, l.length = n := ⟨_, rfl⟩
  rw [hn] at hxc hxx hlen ⊢
  have Hn := Lib.hid hn; clear hn
  have HX := Lib.hid hxx; clear hxx
  obtain ⟨es, hes⟩ : ∃ es, encS l = es := ⟨_, rfl⟩
  obtain ⟨ee, hee⟩ : ∃ ee, encErr l = ee := ⟨_, rfl⟩
  rw [hes, hee]
  have Hes := Lib.hid hes; clear hes
  have Hee := Lib.hid hee; clear hee
  go_enter Tryd.func40, Tryd.ntmps40
  go_wp2
  go_loopw [4, 9] (fun s4 i wr => ∃ k : Nat, k ≤ n ∧ i = .int .i64 k ∧ wr.ownsRow w.heap.size 5 1 s4 (encL (l.take k)).length (Lib.byteCells (encL (l.take k))) ∧ Below w.heap.size w wr ∧ Hid (allRunes (l.take k) = true)) (fun _ i _ => n - (RowKit.intOf i).toNat)
  case atStart => exact ⟨0, Nat.zero_le _, rfl, by simpa [encL, Lib.byteCells] using World.ownsRow_nil _ _ _ _, Below.refl _ w, Lib.hid (by simp [allRunes])⟩
  case round =>
    obtain ⟨k, hk, rfl, hrow, hB, HA⟩ := hrel
    by_cases hlt : k < n
    · obtain ⟨b, o, rfl, hb, hc1⟩ := HX.out (by omega)
      have e1 := (hB.cell (p := ⟨b, o + k, none⟩) hb).trans (hc1 k hlt)
      have t1 := encL_take l k (by rw [Hn.out]; exact hlt)
      have t2 := all_take l k (by rw [Hn.out]; exact hlt)
      have t3 := all_no l k (by rw [Hn.out]; exact hlt)
      obtain ⟨r, hr1⟩ : ∃ r, l.getD k 0 = r := ⟨_, rfl⟩
      rw [hr1] at e1 t1 t2 t3
      have T1 := Lib.hid t1; have T2 := Lib.hid t2; have T3 := Lib.hid t3
      clear t1 t2 t3 hr1 hc1
      have i1 : (k : Int) < (n : Int) := by omega
      have c1 := isRune_any r wr
      cases hv : Lib.validRune r
      · rw [hv] at c1
        have C1 := Lib.hid c1
        have HV := Lib.hid hv
        clear c1 hv
        go_wp2_with (go_at_call 31; refine C1.out.mono ?_; rintro e w' ⟨rfl, rfl⟩)
        go_ret2
        have h0 := T3.out HV.out
        exact ⟨by rw [← Hes.out, ← Hee.out]; simp [encS, encErr, h0], hB⟩
      · rw [hv] at c1
        have C1 := Lib.hid c1
        have HV := Lib.hid hv
        clear c1 hv
        have hle : (encL (l.take k)).length + (Lib.encodeRune r).length ≤ 140737488355328 := by
          have h1 := encL_le (l.take k); rw [List.length_take] at h1
          have h2 := encodeRune_len r; omega
        obtain ⟨v', w', hrun, hown, hba, hg⟩ := append_bytes wr w.heap.size _ _ _ hrow (Lib.encodeRune r) hB.size hle
        have hB2 : Below w.heap.size w w' := (hB.trans (hba.mono hB.size)).grown hg (Nat.le_trans hB.size hba.size) (own_block hrow)
        have C2 := Lib.hid (bytes_any r wr HV.out)
        obtain ⟨O, hO⟩ : ∃ O, Obj.cells (Lib.byteCells (Lib.encodeRune r)).toArray 5 = O := ⟨_, rfl⟩
        obtain ⟨q, hq⟩ : ∃ q, (Lib.encodeRune r).length = q := ⟨_, rfl⟩
        rw [hO] at hrun C2
        rw [hq] at hrun C2
        have HR := Lib.hid hrun
        clear hrun hle hba hg hO hq
        go_wp2_with (first
          | (go_at_call 31; refine C1.out.mono ?_; rintro e w' ⟨rfl, rfl⟩)
          | (go_at_call 46; refine C2.out.mono ?_; rintro e w' ⟨rfl, rfl⟩)
          | (at_builtin; refine wpList_append_run (.tmp 16) (.tmp 18) 67 _ _ _ _ HR.out rfl rfl rfl rfl ?_))
        go_roundw
        case rel => exact ⟨k + 1, by omega, by go_num, by rw [T1.out, Lib.byteCells_append]; simpa using hown, hB2, Lib.hid (by rw [T2.out, HA.out, HV.out]; rfl)⟩
        case measure => simp [RowKit.intOf]; omega
    · obtain rfl : n = k := by omega
      have hcv := conv_own wr w.heap.size _ _ _ hrow
      have ht : l.take n = l := List.take_of_length_le (by rw [Hn.out]; exact Nat.le_refl _)
      have h0 : allRunes l = true := by have := HA.out; rwa [ht] at this
      rw [ht] at hcv
      have he : encL l = es := by rw [← Hes.out]; simp [encS, h0]
      have hee : (0 : Int) = ee := by rw [← Hee.out]; simp [encErr, h0]
      rw [he] at hcv
      have HE := Lib.hid hee
      clear ht h0 he hrow hee
      go_wp2
      go_ret2
      exact ⟨by rw [← HE.out]; rfl, hB⟩
end Go.Proofs.YthigbnklekdemaaDoor
