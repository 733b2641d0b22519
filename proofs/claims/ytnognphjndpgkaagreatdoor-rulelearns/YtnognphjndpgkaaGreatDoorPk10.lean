/- Texts that several proofs of this seat share, one behind the other: HSeq HCheck HOf HLong BRows BRefRows. -/
import Derived.Test.YtnognphjndpgkaaGreatDoorPk9
import Derived.Test.YtnognphjndpgkaaGreatDoorPk8
import Derived.Test.YtnognphjndpgkaaGreatDoorPk1
import Derived.Test.YtnognphjndpgkaaGreatDoorPk3
import Derived.Test.YtnognphjndpgkaaGreatDoorPk4
/- A loop over an iterator that itself loops over another one, where each round boxes its element: the law of the loop. -/
namespace Go.Proofs.YtnognphjndpgkaaGreatDoor
open Go.RowKit Go.Shelf

theorem wp_range_box {α : Type} {n : Nat} {P : Program} {g : Operand} {ps : Array Tmp} {assign body : Code} {Q : Exit → Act → World → Prop} {a : Act} {w : World}
    (h1 : 1 ≤ n) {gf : Nat} {lb : Array Value} (hg : a.eval g = .func (.func gf) #[] lb) (eg : ∀ args w, (callFunc gf args).run P w = .ok (.enter gf args) w)
    {encs : α → Array Value} {Kp : World → World → Prop} {S : List α → Prop} {N : Nat} {w0 : World} (hseq : SeqT (n - 1) P gf lb encs Kp S N w0)
    (hKt : ∀ {A B C : World}, Kp A B → Kp B C → Kp A C) (hKb : ∀ (W : World) (l : Nat) (o o' : Obj), w.heap.size ≤ l → W.heap[l]? = some o → o.isCells = false → o.isWalk = false → Kp W (W.putObj l o')) (hKa : ∀ (W : World) (o : Obj), w.heap.size ≤ W.heap.size → Kp W (W.alloc o)) (hb0 : Below w0.heap.size w0 w) (hps : ∀ x, (encs x).size = ps.size)
    (I : List α → World → Prop) (hI : OwnFrom w.heap.size I) (hIp : ∀ pre W1 W2, I pre W1 → w.heap.size + 2 ≤ W1.heap.size → Priv (w.heap.size + 2) W1 W2 → I pre W2) (h0 : I [] w) (a₁ : α → Nat → Act) (mk : α → Obj)
    (hassign : ∀ (l : Nat) (x : α) (W : World) (K : Act → World → Prop), K (a₁ x W.heap.size) (W.alloc (mk x)) →
      assign.wpIn (Fence.wide.inRound l) (n - 1 - 1) P (Exit.then K (fun _ _ _ => False)) { tmps := (ps.zip (encs x)).foldl (fun t (p, v) => t.setIfInBounds p v) a.tmps, defers := [] } W)
    (hbody : ∀ (l : Nat) (pre : List α) (x : α) (W : World) (k : Nat), w.heap.size + 4 ≤ k → I pre W → W.heap[k]? = some (mk x) → pre.length < N → body.wpIn (Fence.wide.inRound l) (n - 1 - 1) P (privPost w.heap.size Kp I (pre ++ [x]) W) (a₁ x k) W)
    (hdone : ∀ (D : Nat) (xs : List α) (W : World), w.heap.size ≤ D → S xs → I xs W → W.heap[D]? = some (.deferred (some [])) → Q .normal { a with defers := { target := .collected D, args := #[] } :: a.defers } W) :
    (Code.rangeFunc g ps assign body).wpIn Fence.wide n P Q a w := by
  refine wpIn_rangeFunc fun fn hfn => ?_
  obtain ⟨b, hb⟩ : ∃ b, w.heap.size = b := ⟨_, rfl⟩
  obtain ⟨rc, hrc⟩ : ∃ rc : LoopState → Loop, rc = fun st => { state := st, pending := none, fn, tmps := a.tmps, params := ps, assign, body, defers := b } := ⟨_, rfl⟩
  obtain ⟨V, hV⟩ : ∃ V, (w.alloc (.deferred (some []))).alloc (.loop (rc .ready)) = V := ⟨_, rfl⟩
  have hVs : V.heap.size = b + 2 := by rw [← hV]; simp [hb]
  have hL : V.heap[b + 1]? = some (.loop (rc .ready)) := by
    rw [← hV]; have := World.alloc_heap_new (w.alloc (.deferred (some []))) (.loop (rc .ready)); rwa [World.size_alloc, hb] at this
  have hD : V.heap[b]? = some (.deferred (some [])) := by
    rw [← hV, ← hb]; exact (Below.heap_alloc _ _ _ (by simp)).trans (World.alloc_heap_new w _)
  have hI0 : I [] V := by rw [← hV]; exact hI.alloc _ (hI.alloc _ h0)
  have hbV : Below w0.heap.size w0 V := by
    rw [← hV]; exact hb0.trans ((((Below.refl _ w).alloc (Nat.le_refl _) _).alloc (by simp) _).mono hb0.size)
  rw [hb] at hKb hKa hI hIp hbody hdone
  refine ⟨b + 1, [{ target := .collected b, args := #[] }], V, { target := .fn (.func gf) lb, args := #[.func (.yield (b + 1)) #[] #[]] }, V, gf, #[.func (.yield (b + 1)) #[] #[]] ++ lb, V, ?_, ?_, ?_, ?_, fun _ => h1, ?_⟩
  · rw [← hV, hrc, ← hb]; exact run_enterLoop_outer _ _ _ _ _
  · simp only [resolve, hg]; simp [go_sem]
  · intro f' _; trivial
  · simp [invoke, go_sem, eg]
  refine (hseq (b + 1) (fun pre W => I pre W ∧ W.heap[b + 1]? = some (.loop (rc .ready)) ∧ W.heap[b]? = some (.deferred (some []))) V hbV
    (fun pre A B hJ hs hp => by
      rw [hVs] at hp hs
      exact ⟨hIp pre A B hJ.1 hs hp, (hp.1.block _ (by omega)).trans hJ.2.1, (hp.1.block _ (by omega)).trans hJ.2.2⟩) ?_ ⟨hI0, hL, hD⟩).mono ?_
  · rintro pre x W ⟨hi, hl, hk⟩ hlen hsz
    rw [hVs] at hsz ⊢
    have hy := run_yield (P := P) (args := encs x) hl (by rw [hrc]; exact hps x)
    rw [hrc] at hy
    obtain ⟨Wa, hWa⟩ : ∃ Wa, W.alloc (mk x) = Wa := ⟨_, rfl⟩
    have hsa : Wa.heap.size = W.heap.size + 1 := by rw [← hWa]; simp
    have hna : Wa.heap[W.heap.size]? = some (mk x) := by rw [← hWa]; exact World.alloc_heap_new W _
    have hoa : ∀ k, k < W.heap.size → Wa.heap[k]? = W.heap[k]? := fun k hk => by rw [← hWa]; exact Below.heap_alloc _ _ _ hk
    have hla : Wa.heap[b + 1]? = some (.loop (rc .ready)) := (hoa _ (by omega)).trans hl
    have hia : I pre Wa := by rw [← hWa]; exact hI.alloc _ hi
    have hkpa : Kp W Wa := by rw [← hWa]; exact hKa _ _ (by omega)
    have hlt : b + 1 < Wa.heap.size := by omega
    obtain ⟨W2, hW2⟩ : ∃ W2, Wa.putObj (b + 1) (.loop { rc .ready with state := .busy }) = W2 := ⟨_, rfl⟩
    have hl2 : W2.heap[b + 1]? = some (.loop { rc .ready with state := .busy }) := by rw [← hW2]; exact World.putObj_heap_same hlt
    have ho2 : ∀ k, k ≠ b + 1 → W2.heap[k]? = Wa.heap[k]? := fun k hne => by rw [← hW2]; exact World.putObj_heap_other hne
    have hs2 : W2.heap.size = Wa.heap.size := by rw [← hW2]; simp
    have hkp2 : Kp W W2 := hKt hkpa (by rw [← hW2]; exact hKb _ _ _ _ (by omega) hla rfl rfl)
    have hi2 : I pre W2 := by rw [← hW2]; exact hI.putObj _ hia (by omega) hla rfl
    have has := hassign (b + 1) x W
    rw [hWa] at has
    refine ⟨fn, _, assign, body, hy, roundIn_of_wpIn hfn (has _ ⟨W2, by rw [← hW2]; exact run_beginRound hla (by rw [hrc]), ?_⟩)⟩
    refine wpIn_mono (hbody _ pre x W2 W.heap.size (by omega) hi2 ((ho2 _ (by omega)).trans hna) hlen) ?_
    rintro e a3 W3 hp
    cases e with
    | normal =>
      obtain ⟨hk3, ht3, hkp3, hi3⟩ := hp
      have hl3 := hk3.same _ _ (by omega) hl2 rfl
      have he := run_endRound (P := P) none hl3
      refine ⟨_, _, he, rfl, ⟨hI.putObj _ hi3 (by omega) hl3 rfl, ?_, ?_⟩, hKt (hKt hkp2 hkp3) (hKb _ _ _ _ (by omega) hl3 rfl rfl), ?_, ?_⟩
      · rw [World.putObj_heap_same (Array.getElem?_eq_some_iff.1 hl3).1, hrc]; rfl
      · exact (World.putObj_heap_other (by omega)).trans (hk3.same _ _ (Nat.le_refl _) ((ho2 b (by omega)).trans ((hoa b (by omega)).trans hk)) rfl)
      · refine ⟨by simp; have := hk3.size; omega, fun k _ hB hk0 ho => ?_⟩
        have hklt := (Array.getElem?_eq_some_iff.1 hk0).1
        exact (World.putObj_heap_other (by omega)).trans (hk3.same _ _ (by omega) ((ho2 k (by omega)).trans ((hoa k hklt).trans hk0)) ho)
      · intro k hB1 hB2
        exact (World.putObj_heap_other (by omega)).trans ((ht3 k hB1 hB2).trans ((ho2 k (by omega)).trans (hoa k (by omega))))
    | ret => exact hp.elim
    | exit id => exact hp.elim
    | goto t => exact hp.elim
    | panic ch => exact hp.elim
    | outgrown => exact hp.elim
  · rintro e W2 ⟨⟨v, rfl⟩, xs, hS, hi, hl, hk⟩
    have he := run_endLoop (P := P) hl (by rw [hrc]; simp)
    refine ⟨none, _, by rw [hrc] at he; exact he, hdone _ xs _ (Nat.le_refl _) hS (hI.putObj _ hi (by omega) hl rfl) ((World.putObj_heap_other (by omega)).trans hk)⟩
end Go.Proofs.YtnognphjndpgkaaGreatDoor

/- block.Check, Less: whether a block may be; which of two stands ahead. -/
namespace Go.Proofs.YtnognphjndpgkaaGreatDoor
open Go.RowKit Go.Shelf

set_option maxRecDepth 100000 in
set_option maxHeartbeats 4000000 in
theorem chk_any (a b : ByteArray) (N : Int) (w : World) (hO : Okw w) (ha : a.size * 4 ≤ 140737488355328) (hb : b.size * 4 ≤ 140737488355328) :
    Calls Tryz.prog 16 #[.agg #[.string a, .string b, .int .i64 N]] w fun e w' => e = .returned (.int .i64 (chkS (a, b, N))) ∧ Below w.heap.size w w' := by
  obtain ⟨res, hres⟩ : ∃ r, chkS (a, b, N) = r := ⟨_, rfl⟩
  rw [hres]
  have hO1 : Okw (w.alloc (.cells #[.string a, .string b, .int .i64 N] 34)) := hO.below ((Below.refl _ _).alloc (Nat.le_refl _) _)
  have c1 := decode_runs a (w.alloc (.cells #[.string a, .string b, .int .i64 N] 34)) ha hO1.1 hO1.2
  have c2 := fun (w : World) (h : Okw w) => decode_runs b w hb h.1 h.2
  have HO1 := Lib.hid hO1; clear hO1 hO
  unfold chkS at hres
  simp only at hres
  have hal : Below w.heap.size w (w.alloc (.cells #[.string a, .string b, .int .i64 N] 34)) := (Below.refl _ _).alloc (Nat.le_refl _) _
  have HAL := Lib.hid hal; clear hal
  have key : ∀ (n m : Nat) (ea eb : Int), (decRunes a.data.toList).length = n → (decRunes b.data.toList).length = m → decErr a.data.toList = ea → decErr b.data.toList = eb →
      ((ea != 0) = true ∧ res = 3) ∨ ((ea != 0) = false ∧ (eb != 0) = true ∧ res = 3) ∨ ((ea != 0) = false ∧ (eb != 0) = false ∧ ((3 < n ∧ res = 5) ∨ (¬ 3 < n ∧ 3 < m ∧ res = 5) ∨ (¬ 3 < n ∧ ¬ 3 < m ∧ ((a = b ∧ res = 7) ∨ (a ≠ b ∧ ((N < 1 ∧ res = 2) ∨ (¬ N < 1 ∧ 1073741824 < N ∧ res = 2) ∨ (¬ N < 1 ∧ ¬ 1073741824 < N ∧ res = 0))))))) := by
    intro n m ea eb hn hm hea heb
    unfold decErr at hea heb
    unfold decRunes at hn hm
    cases va : Lib.validD a.data.toList with
    | false =>
      rw [va] at hea hres
      left
      exact ⟨by rw [← hea]; rfl, by rw [← hres]; rfl⟩
    | true =>
      rw [va] at hea hn hres
      have hea0 : ea = 0 := hea.symm
      cases vb : Lib.validD b.data.toList with
      | false =>
        rw [vb] at heb hres
        right; left
        exact ⟨by rw [hea0]; rfl, by rw [← heb]; rfl, by rw [← hres]; rfl⟩
      | true =>
        rw [vb] at heb hm hres
        have heb0 : eb = 0 := heb.symm
        right; right
        refine ⟨by rw [hea0]; rfl, by rw [heb0]; rfl, ?_⟩
        simp only [Bool.and_self, if_true] at hres hn hm
        rw [hn, hm] at hres
        by_cases h1 : 3 < n
        · left; exact ⟨h1, by rw [← hres, if_pos (.inl h1)]⟩
        · right
          by_cases h2 : 3 < m
          · left; exact ⟨h1, h2, by rw [← hres, if_pos (.inr h2)]⟩
          · right
            rw [if_neg (by omega)] at hres
            refine ⟨h1, h2, ?_⟩
            by_cases h3 : a = b
            · left; exact ⟨h3, by rw [← hres, if_pos h3]⟩
            · right
              rw [if_neg h3] at hres
              refine ⟨h3, ?_⟩
              by_cases h4 : N < 1
              · left; exact ⟨h4, by rw [← hres, if_pos (.inl h4)]⟩
              · right
                by_cases h5 : 1073741824 < N
                · left; exact ⟨h4, h5, by rw [← hres, if_pos (.inr h5)]⟩
                · right; exact ⟨h4, h5, by rw [← hres, if_neg (by omega)]⟩
  obtain ⟨n, hn⟩ : ∃ n, (decRunes a.data.toList).length = n := ⟨_, rfl⟩
  obtain ⟨m, hm⟩ : ∃ n, (decRunes b.data.toList).length = n := ⟨_, rfl⟩
  obtain ⟨ea, hea⟩ : ∃ n, decErr a.data.toList = n := ⟨_, rfl⟩
  obtain ⟨eb, heb⟩ : ∃ n, decErr b.data.toList = n := ⟨_, rfl⟩
  have hcs := key n m ea eb hn hm hea heb
  simp only [hn, hea] at c1
  simp only [hm, heb] at c2
  clear key hres hn hm hea heb
  have C1 := Lib.hid c1; have C2 := Lib.hid c2
  clear c1 c2
  have fin : ∀ w1 w2 : World, Below (w.alloc (.cells #[.string a, .string b, .int .i64 N] 34)).heap.size (w.alloc (.cells #[.string a, .string b, .int .i64 N] 34)) w1 → Below w1.heap.size w1 w2 →
      w1.cell? ⟨w.heap.size, 1, none⟩ = some (.string b) ∧ w2.cell? ⟨w.heap.size, 0, none⟩ = some (.string a) ∧ w2.cell? ⟨w.heap.size, 1, none⟩ = some (.string b) ∧ w2.cell? ⟨w.heap.size, 2, none⟩ = some (.int .i64 N) ∧ Below w.heap.size w w2 := fun w1 w2 h1 h2 => by
    have h12 := h1.trans (h2.mono h1.size)
    exact ⟨(h1.cell (p := ⟨w.heap.size, 1, none⟩) (by simp)).trans (by simp), (h12.cell (p := ⟨w.heap.size, 0, none⟩) (by simp)).trans (by simp), (h12.cell (p := ⟨w.heap.size, 1, none⟩) (by simp)).trans (by simp), (h12.cell (p := ⟨w.heap.size, 2, none⟩) (by simp)).trans (by simp), HAL.out.trans (h12.mono HAL.out.size)⟩
  have FIN := Lib.hid fin; clear fin
  rcases hcs with ⟨z1, rfl⟩ | ⟨z1, z2, rfl⟩ | ⟨z1, z2, ⟨h1, rfl⟩ | ⟨h1, h2, rfl⟩ | ⟨h1, h2, ⟨rfl, rfl⟩ | ⟨h3, ⟨h4, rfl⟩ | ⟨h4, h5, rfl⟩ | ⟨h4, h5, rfl⟩⟩⟩⟩
  all_goals
    try have i1 : (3 : Int) < (n : Int) := by omega
    try have i1 : ¬ (3 : Int) < (n : Int) := by omega
    try have i2 : (3 : Int) < (m : Int) := by omega
    try have i2 : ¬ (3 : Int) < (m : Int) := by omega
    try have s1 : (a.toList == b.toList) = false := beq_eq_false_iff_ne.2 (fun e => h3 (by cases a; cases b; congr 1; exact Array.toList_inj.1 (by simpa [Lib.toList_data] using e)))
    go_enter Tryz.func16, Tryz.ntmps16
    go_wp2_with fail
    refine C1.out.mono ?_
    rintro e w1 ⟨A1, c1, rfl, r1, b1⟩
    obtain ⟨p1, _, _, _, _⟩ := FIN.out w1 w1 b1 (Below.refl _ _)
    have B1 := Lib.hid b1; clear b1 r1
    go_wp2_with fail
    refine (C2.out _ (HO1.out.below B1.out)).mono ?_
    rintro e w2 ⟨A2, c2, rfl, r2, b2⟩
    obtain ⟨_, q0, q1, q2, bb⟩ := FIN.out w1 w2 B1.out b2
    have BB := Lib.hid bb
    clear b2 r2 bb p1
    go_wp2
    go_ret
    exact ⟨rfl, BB.out⟩

set_option maxRecDepth 100000 in
set_option maxHeartbeats 4000000 in
theorem less_any (a b c d : ByteArray) (N M : Int) (w : World) :
    Calls Tryz.prog 44 #[.agg #[.string a, .string b, .int .i64 N], .agg #[.string c, .string d, .int .i64 M]] w fun e w' => e = .returned (.bool (lessB (a, b, N) (c, d, M))) ∧ Below w.heap.size w w' := by
  obtain ⟨res, hres⟩ : ∃ r, lessB (a, b, N) (c, d, M) = r := ⟨_, rfl⟩
  rw [hres]
  unfold lessB at hres
  simp only at hres
  have HR := Lib.hid hres; clear hres
  have hal : Hid (Below w.heap.size w ((w.alloc (.cells #[.string a, .string b, .int .i64 N] 34)).alloc (.cells #[.string c, .string d, .int .i64 M] 34))) := Lib.hid (((Below.refl _ _).alloc (Nat.le_refl _) _).alloc (by simp) _)
  by_cases h2 : a.toList = c.toList
  · have h1 : ¬ Op.bytesLess a.toList c.toList = true := by
      rw [h2, Go.Proofs.bytesLess_eq]
      simp [List.lt_irrefl]
    have hr : Hid (res = Op.bytesLess b.toList d.toList) := Lib.hid (by rw [← HR.out, if_neg h1, if_pos h2])
    obtain rfl := toList_ext h2
    clear h1 h2
    go_enter Tryz.func44, Tryz.ntmps44
    go_wp2
    go_ret
    exact ⟨ret_bool (by rw [hr.out]), hal.out⟩
  · have hr : Hid (res = Op.bytesLess a.toList c.toList) := Lib.hid (by
      rw [← HR.out, if_neg h2]
      cases Op.bytesLess a.toList c.toList <;> rfl)
    have h2' : (a.toList == c.toList) = false := beq_eq_false_iff_ne.2 h2
    go_enter Tryz.func44, Tryz.ntmps44
    go_wp2
    go_ret
    exact ⟨ret_bool (by rw [hr.out]), hal.out⟩
end Go.Proofs.YtnognphjndpgkaaGreatDoor

/- block.Of: the blocks of steps that aren't too long and differ, or why a step may not be. -/
namespace Go.Proofs.YtnognphjndpgkaaGreatDoor
open Go.RowKit Go.Shelf
attribute [local go_sem] Oper.semAt_some blkV

theorem info_bk : (Tryz.prog.info? 34).map (fun i => (i.zero, i.size, i.bytes)) = some (some (.agg #[.string ⟨#[]⟩, .string ⟨#[]⟩, .int .i64 0]), 3, 40) := by kernel_rfl
theorem blk_len (x : Blk) : (blkCell x).length = 3 := rfl
theorem bk_one (x : Blk) : ∀ u ∈ blkCell x, u.oneCell' = true := by
  intro u hu
  simp only [blkCell, List.mem_cons, List.not_mem_nil, or_false] at hu
  rcases hu with rfl | rfl | rfl <;> rfl
/-- An append whose run is known, within a fence. -/
theorem wpListIn_append_runH {F : Fence} {n : Nat} {P : Program} {w : World} {ops : Array Oper} {rest : List Oper} {o : Oper} {a : Act} {Q : Exit → Act → World → Prop} (s x : Operand) (t : TypeId) (v u v' : Value) (w' : World)
    (hg : o.guard = none) (hop : o.op = Op.call { callee := Callee.builtin Builtin.append, args := #[s, x], argTypes := #[t, t] })
    (hrun : (Builtin.append_ #[t, t] o.type #[v, u]).run P w = .ok v' w') (hs : a.eval s = v) (hx : a.eval x = u)
    (h : wpListIn F n P ops Q rest (a.put o.dst v') w') : wpListIn F n P ops Q (o :: rest) a w := by
  refine wpListIn_plain hg fun K hK => ?_
  unfold Oper.wpIn
  refine ⟨?_, ?_⟩
  · simp [Oper.about, hop, resolve, Target.leads, Sem.run_pure]
  · rw [Oper.semAt_plain F _ _ (by rw [hop]; intro c hc'; cases hc')]
    simp [execOp, hop, resolve, invoke, builtin, hs, hx, hrun, Result.andThen]
    exact hK _ _ h
/-- The blocks that may be among all. -/
def okB (l : List Blk) : List Blk := l.filter (fun b => decide (chkS b = 0))
theorem okB_yes (l : List Blk) (x : Blk) (h : chkS x = 0) : okB (l ++ [x]) = okB l ++ [x] := by simp [okB, h]
theorem okB_no (l : List Blk) (x : Blk) (h : chkS x ≠ 0) : okB (l ++ [x]) = okB l := by simp [okB, h]
theorem okB_len (l : List Blk) : (okB l).length ≤ l.length := List.length_filter_le _ _

def OfPost (l : List St) (w : World) (e : Ending) (w' : World) : Prop :=
  ∃ v, e = .returned (.tuple #[v, .int .i64 (stErr l)]) ∧ w'.ownsRow w.heap.size 34 3 v (ofS l).length (gCells blkCell (ofS l)) ∧ Below w.heap.size w w'

set_option maxRecDepth 100000 in
set_option maxHeartbeats 2000000 in
theorem of_no (u : Value) (l : List St) (w : World) (h : Okw w) (hu : StRuns w u l) (hl : l.length ≤ 1000000) (hf : stFit l) (he : stErr l ≠ 0) : Calls Tryz.prog 33 #[u] w (OfPost l w) := by
  unfold OfPost
  have hof : ofS l = [] := by
    rw [ofS, if_neg]
    intro hg
    exact he (by rw [stErr, hg]; rfl)
  rw [hof]
  have c := check_any l hl hf w u h hu
  obtain ⟨er, her⟩ : ∃ er, stErr l = er := ⟨_, rfl⟩
  rw [her] at c he ⊢
  have C := Lib.hid c
  clear c her
  have h1 : (er == 0) = false := by simpa using he
  go_enter Tryz.func33, Tryz.ntmps33
  go_wp2_with fail
  refine C.out.mono ?_
  rintro e w1 ⟨rfl, hb⟩
  go_wp2
  go_ret2
  exact ⟨_, rfl, World.ownsRow_nil _ _ _ _, hb⟩

set_option maxRecDepth 100000 in
set_option maxHeartbeats 2000000 in
theorem of_yes (u : Value) (L : List St) (w : World) (h : Okw w) (hu : StRuns w u L) (hl : L.length ≤ 1000000) (hf : stFit L) (he : stErr L = 0) : Calls Tryz.prog 33 #[u] w (OfPost L w) := by
  unfold OfPost
  have hg : L.all stGood = true := by
    cases hg : L.all stGood with
    | true => rfl
    | false => rw [stErr, hg] at he; cases he
  have hof := of_filter hg
  rw [he, ← hof]
  have HOF : Hid (((rowsP L).map blkOf).filter (fun b => decide (chkS b = 0)) = okB ((rowsP L).map blkOf)) := Lib.hid rfl
  rw [HOF.out]
  clear hof HOF
  have c := check_any L hl hf w u h hu
  rw [he] at c
  have C := Lib.hid c
  clear c he
  obtain ⟨A, cc, rfl, hcc, ⟨hm, hAn⟩, hxx⟩ := hu
  have hu : StRuns w (.slice A L.length cc) L := ⟨A, cc, rfl, hcc, ⟨hm, hAn⟩, hxx⟩
  obtain ⟨N, hN⟩ : ∃ N, L.length = N := ⟨_, rfl⟩
  obtain ⟨b, o, hA⟩ : ∃ b o, 0 < N → A = some ⟨b, o, none⟩ := by
    by_cases h0 : 0 < L.length
    · obtain ⟨b, o, e, _⟩ := hxx h0
      exact ⟨b, o, fun _ => e⟩
    · exact ⟨0, 0, fun h => absurd (hN ▸ h) h0⟩
  rw [hN] at hu hl hcc ⊢
  clear hxx hAn
  refine (callsIn_wide (n := 6)).1 ?_
  refine callsIn_of_wp_marks Tryz.func33 rfl trivial ?_ rfl
  simp only [Tryz.ntmps33, List.size_toArray, List.length_cons, List.length_nil, Nat.reduceAdd, Nat.reduceSub, Array.replicate_succ, Array.replicate_zero, List.push_toArray, List.append_toArray, List.nil_append, List.cons_append]
  gi_wp2_with fail
  refine ⟨trivial, ?_⟩
  gi_at_call 51
  rw [hN] at C
  refine (callsIn_wide.2 C.out).mono ?_
  rintro e w0 ⟨rfl, hbd⟩
  gi_wp2_with (refine ⟨trivial, ?_⟩; gi_at_call 52; refine (callsIn_wide.2 (blocksFn_any _ _ _ _)).mono ?_; rintro e w' ⟨rfl, rfl⟩)
  have hw0 := hbd.size
  have bL := Boxed.new w0 35 (.slice none 0 0)
  have bS := Boxed.new (w0.alloc (.cells #[.slice none 0 0] 35)) 65 (.slice A N cc)
  rw [World.size_alloc] at bS
  have hB0 : Below w.heap.size w ((w0.alloc (.cells #[.slice none 0 0] 35)).alloc (.cells #[.slice A N cc] 65)) := (hbd.alloc hw0 _).alloc (by simp; omega) _
  refine wp_range_box (by decide) (gf := 75) (lb := #[.pointer (some ⟨w0.heap.size + 1, 0, none⟩)]) rfl (enters_of Tryz.func75 (by kernel_rfl) rfl)
    (biter5 (w0.heap.size + 1) w.heap.size A N cc b o L hN hl hA hf w h rfl hu _ (by simp; omega) hB0 (by simp) bS.cell) Keep.trans (keepK_b (by simp; omega) (by simp)) (fun W o hW => Keep.of_below ((Below.refl _ W).alloc (Nat.le_refl _) _) (by simp at hW; omega) (by simp at hW; omega)) (Below.refl _ _) (fun _ => rfl)
    (fun (pre : List BkI) W => (∃ v, Boxed W w0.heap.size 35 v ∧ W.ownsRow w.heap.size 34 3 v (okB (bkL pre)).length (gCells blkCell (okB (bkL pre))) ∧ ∀ g, v.ownBlock = some g → g ≠ w0.heap.size + 1 ∧ (g < w0.heap.size + 4 ∨ w0.heap.size + 6 ≤ g)) ∧ Boxed W (w0.heap.size + 1) 65 (.slice A N cc) ∧ Below w.heap.size w W)
    ?own ?priv ⟨⟨_, bL.alloc _, World.ownsRow_nil _ _ _ _, by simp [Value.ownBlock]⟩, bS, hB0⟩
    (fun x k => { tmps := #[.slice A N cc, undef, .slice none 0 0, .int .i64 0, .int .i64 0, .pointer (some ⟨w0.heap.size, 0, none⟩), .pointer (some ⟨k, 0, none⟩), .slice A N cc, .int .i64 0, .int .i64 0, .bool false, undef, .slice A N cc, .func (.func 75) #[] #[.pointer (some ⟨w0.heap.size + 1, 0, none⟩)], .agg #[.string x.val.1, .string x.val.2.1, .int .i64 x.val.2.2], undef, undef, undef, undef, undef, undef, undef, undef], defers := [] })
    (fun x => .cells (blkCell x.val).toArray 34)
    ?assign ?body ?done
  case own =>
    intro pre X Y row hx hg hr
    obtain ⟨⟨v, hv1, hrow, hgv⟩, hS, hB⟩ := hx
    have hne : ∀ k, (∃ cs t, X.heap[k]? = some (.cells cs t (0, 0))) → some k ≠ row := by
      rintro k ⟨cs, t, hk⟩ e
      obtain ⟨_, o, ho, hc⟩ := hr k e.symm
      rw [hk] at ho; cases ho; cases hc
    refine ⟨⟨v, hv1.kept hg (hne _ ⟨_, _, hv1⟩), hrow.kept hg ?_, hgv⟩, hS.kept hg (hne _ ⟨_, _, hS⟩), ⟨hg.os.trans hB.os, hg.tape.trans hB.tape, hg.output.trans hB.output, Nat.le_trans hB.size hg.size, fun k hk => (hg.block k (Nat.lt_of_lt_of_le hk hB.size) (fun e => by have := (hr k e.symm).1; simp at this; omega)).trans (hB.block k hk)⟩⟩
    rcases hrow.2 with ⟨rfl, _⟩ | ⟨g', cap, cur, rfl, _, hgb, _⟩
    · exact .inl rfl
    · exact .inr (fun e => hne g' ⟨_, _, hgb⟩ (by simpa [Value.ownBlock] using e))
  case priv =>
    rintro pre X Y ⟨⟨v, hv1, hrow, hgv⟩, hS, hB⟩ hsz hp
    simp only [World.size_alloc] at hsz hp
    refine ⟨⟨v, (hp.1.block _ (by omega)).trans hv1, ⟨hrow.1, ?_⟩, hgv⟩, (hp.1.block _ (by omega)).trans hS, hB.trans (hp.1.mono (by omega))⟩
    rcases hrow.2 with h0 | ⟨g', cap, cur, rfl, h1, hgb, h2⟩
    · exact .inl h0
    · refine .inr ⟨g', cap, cur, rfl, h1, ?_, h2⟩
      rcases (hgv g' rfl).2 with h3 | h3
      · exact (hp.1.block _ (by omega)).trans hgb
      · exact hp.2 g' _ (by omega) hgb rfl
  case assign =>
    intro l x W K hK
    gi_wp2
    exact hK
  case body =>
    rintro l pre x W k hk0 ⟨⟨v, hv1, hrow, hgv⟩, hS, hB⟩ hkx hlt
    simp only [World.size_alloc] at hk0
    have hkl := (Array.getElem?_eq_some_iff.1 hkx).1
    obtain ⟨q1, q2⟩ := x.property
    have c1 := chk_any x.val.1 x.val.2.1 x.val.2.2 W (h.below hB) (by omega) (by omega)
    have C1 := Lib.hid c1; clear c1
    have p0 : W.cell? ⟨k, 0, none⟩ = some (.string x.val.1) := by simp [World.cell?, hkx, blkCell]
    have p1 : W.cell? ⟨k, 1, none⟩ = some (.string x.val.2.1) := by simp [World.cell?, hkx, blkCell]
    have p2 : W.cell? ⟨k, 2, none⟩ = some (.int .i64 x.val.2.2) := by simp [World.cell?, hkx, blkCell]
    obtain ⟨er, her⟩ : ∃ z, chkS (x.val.1, x.val.2.1, x.val.2.2) = z := ⟨_, rfl⟩
    rw [her] at C1
    have her' : chkS x.val = er := her
    gi_wp2_with fail
    refine ⟨trivial, ?_⟩
    gi_at_call 16
    refine (CallsIn.inRound l (callsIn_wide.2 C1.out)).mono ?_
    rintro e w1 ⟨rfl, hb1⟩
    have hs1 := hb1.size
    have hv1w : Boxed w1 w0.heap.size 35 v := (hb1.block _ (by omega)).trans hv1
    have hS1 : Boxed w1 (w0.heap.size + 1) 65 (.slice A N cc) := (hb1.block _ (by omega)).trans hS
    have hrow1 := own_below hrow hb1
    have hB1 : Below w.heap.size w w1 := hB.trans (hb1.mono hB.size)
    have hkp1 : Keep w.heap.size (w0.heap.size + 1) W w1 := Keep.of_below hb1 hB.size (by omega)
    have hkt1 : KeepsTwo (w0.heap.size + 1 + 1 + 2) W w1 := fun j h1 h2 => hb1.block j (by omega)
    by_cases hz : er = 0
    · subst hz
      have hle := okB_len (bkL pre)
      have hbl : (bkL pre).length = pre.length := by simp [bkL]
      have hx1 : w1.heap[k]? = some (.cells (blkCell x.val).toArray 34 (0, 0)) := (hb1.block k hkl).trans hkx
      have r0 : w1.cell? ⟨k, 0, none⟩ = some (.string x.val.1) := by simp [World.cell?, hx1, blkCell]
      have r1 : w1.cell? ⟨k, 1, none⟩ = some (.string x.val.2.1) := by simp [World.cell?, hx1, blkCell]
      have r2 : w1.cell? ⟨k, 2, none⟩ = some (.int .i64 x.val.2.2) := by simp [World.cell?, hx1, blkCell]
      obtain ⟨v', w2, hrun, hown', hgrow, hat⟩ := append_one (P := Tryz.prog) blk_len bk_one info_bk rfl (by decide) (by decide) Tryz.underlying35 w1 w.heap.size v _ _ hrow1 x.val hB1.size (by omega)
      obtain ⟨g', cap', rfl⟩ := ownsRow_succ hown'
      have hS2 := ((hS1.alloc (.cells (blkCell x.val).toArray 34)).kept hgrow (fun e => (hgv _ e.symm).1 rfl)).other (by omega : w0.heap.size + 1 ≠ w0.heap.size) (.slice (some ⟨g', 0, none⟩) ((okB (bkL pre)).length + 1) cap')
      obtain ⟨hv1', hv2, hr2, hk2, hb2⟩ := hv1w.appended (by decide) hrow1 hB1.size (by omega) hown' hgrow
      have hc1 := hv1w.cell
      have hc2 := hv1'.cell
      have hf2 := hv1'.frozen
      have HR := Lib.hid hrun
      clear hrun
      gi_wp2_with (gi_at_builtin; refine wpListIn_append_runH _ _ _ _ _ _ _ rfl rfl HR.out rfl rfl ?_)
      refine ⟨(kf_below hb1).trans (hk2.from _), ?_, hkp1.trans ⟨hb2, Eq.trans hS2 (Eq.symm hS1)⟩, ⟨_, hv2, ?_, ?_⟩, hS2, hB1.trans hb2⟩
      · intro j h1 h2
        simp only [World.size_alloc] at h1 h2
        exact (Below.heap_setCell _ _ _ j (by show j ≠ w0.heap.size; omega)).trans ((hgrow.block j (by simp; omega) (fun e => by have := (hgv j e.symm).2; omega)).trans ((Below.heap_alloc _ _ _ (by omega)).trans (hb1.block j (by omega))))
      · rw [bkL_snoc, okB_yes _ _ her', gCells_snoc]
        simpa using hr2
      · intro g hg
        obtain rfl : g' = g := by simpa [Value.ownBlock] using hg
        rcases hat with h3 | h3
        · exact hgv g' (by rw [← h3]; rfl)
        · have : g' = w1.heap.size + 1 := by simpa [Value.ownBlock] using h3
          omega
    · have hz' : (er == 0) = false := by simpa using hz
      gi_wp2
      exact ⟨kf_below hb1, by simpa using hkt1, hkp1, ⟨v, hv1w, by rw [bkL_snoc, okB_no _ _ (by rw [her']; exact hz)]; exact hrow1, hgv⟩, hS1, hB1⟩
  case done =>
    rintro D ys W hD hys ⟨⟨v, hv1, hrow, _⟩, hS, hB⟩ hK
    have hc := hv1.cell
    gi_wp2
    refine ⟨by simp, .inl ⟨_, _, rfl, run_takeDeferred hK, ?_⟩⟩
    refine ⟨_, results_tmp2 rfl _ _ _, ?_⟩
    rw [hys] at hrow
    exact ⟨v, rfl, ownsRow_putObj (W := W) hrow _ hK rfl, hB.trans (belowK_b (w := w) (Nat.le_refl _) W D _ _ (by simp at hD; omega) hK rfl rfl)⟩

theorem of_own (u : Value) (l : List St) (w : World) (h : Okw w) (hu : StRuns w u l) (hl : l.length ≤ 1000000) (hf : stFit l) : Calls Tryz.prog 33 #[u] w (OfPost l w) := by
  by_cases he : stErr l = 0
  · exact of_yes u l w h hu hl hf he
  · exact of_no u l w h hu hl hf he
end Go.Proofs.YtnognphjndpgkaaGreatDoor

/- block.Long: how many blocks of steps are too long, or why a step may not be. -/
namespace Go.Proofs.YtnognphjndpgkaaGreatDoor
open Go.RowKit Go.Shelf
attribute [local go_sem] Oper.semAt_some blkV

/-- How many are too long. -/
def lgB (l : List Blk) : Nat := (l.filter (fun b => decide (chkS b = 5))).length
theorem lgB_yes (l : List Blk) (x : Blk) (h : chkS x = 5) : lgB (l ++ [x]) = lgB l + 1 := by simp [lgB, h]
theorem lgB_no (l : List Blk) (x : Blk) (h : chkS x ≠ 5) : lgB (l ++ [x]) = lgB l := by simp [lgB, h]
theorem lgB_len (l : List Blk) : lgB l ≤ l.length := List.length_filter_le _ _
end Go.Proofs.YtnognphjndpgkaaGreatDoor

/- The rows of steps that aren't matches, as errataref05.rows gathers them: rows of the call's own in a row of its own. -/
namespace Go.Proofs.YtnognphjndpgkaaGreatDoor
open Go.RowKit Go.Shelf

theorem infoSS : (Tryz.prog.info? 65).map (fun i => (i.zero, i.size, i.bytes)) = some (some (.slice none 0 0), 1, 24) := by kernel_rfl

/-- A row of the call's own whose elements are rows of steps of the call's own. -/
structure RowsOwn (w : World) (base : Nat) (ov : Value) (vals : List Value) (rs : List (List St)) : Prop where
  row : w.ownsRow base 65 1 ov vals.length vals
  len : vals.length = rs.length
  each : ∀ (k : Nat) v r, vals[k]? = some v → rs[k]? = some r → w.ownsRow base 90 3 v r.length (stCells r)
  apart : ∀ (j k : Nat) v v', j ≠ k → vals[j]? = some v → vals[k]? = some v' → v.ownBlock = none ∨ v.ownBlock ≠ v'.ownBlock

theorem RowsOwn.nil_ (w : World) (base : Nat) : RowsOwn w base (.slice none 0 0) [] [] := ⟨World.ownsRow_nil _ _ _ _, rfl, fun k v r h => by simp at h, fun j k v v' _ h => by simp at h⟩
theorem RowsOwn.alloc {w : World} {base : Nat} {ov : Value} {vals : List Value} {rs : List (List St)} (h : RowsOwn w base ov vals rs) (o : Obj) : RowsOwn (w.alloc o) base ov vals rs :=
  ⟨h.row.alloc o, h.len, fun k v r h1 h2 => (h.each k v r h1 h2).alloc o, h.apart⟩
theorem RowsOwn.at {w : World} {base : Nat} {ov : Value} {vals : List Value} {rs : List (List St)} (h : RowsOwn w base ov vals rs) {k : Nat} {v : Value} (hk : vals[k]? = some v) : ∃ r, rs[k]? = some r ∧ w.ownsRow base 90 3 v r.length (stCells r) := by
  have hlt : k < rs.length := by have := (List.getElem?_eq_some_iff.1 hk).1; rw [← h.len]; exact this
  exact ⟨rs[k], List.getElem?_eq_getElem hlt, h.each k v _ hk (List.getElem?_eq_getElem hlt)⟩
/-- append(out, nil). -/
theorem RowsOwn.push {w : World} {base : Nat} {ov : Value} {vals : List Value} {rs : List (List St)} (h : RowsOwn w base ov vals rs) (hbase : base ≤ w.heap.size) (hlen : vals.length ≤ 1000000) :
    ∃ ov' w', (Builtin.append_ #[103, 103] 103 #[ov, .slice (some ⟨w.heap.size, 0, none⟩) 1 1]).run Tryz.prog (w.alloc (.cells #[.slice none 0 0] 65)) = .ok ov' w' ∧ RowsOwn w' base ov' (vals ++ [.slice none 0 0]) (rs ++ [[]]) ∧ Below base w w' ∧
      (∀ b, b < w.heap.size → ov.ownBlock ≠ some b → w'.heap[b]? = w.heap[b]?) ∧ w.heap.size ≤ w'.heap.size := by
  obtain ⟨ov', w', hrun, hown, hg, hob⟩ := append_one (P := Tryz.prog) (enc := fun u : Unit => [Value.slice none 0 0]) (k := 1) (fun _ => rfl) (fun _ u hu => by simp at hu; subst hu; rfl) infoSS rfl (by decide) (by decide) Tryz.underlying103 w base ov vals.length vals h.row () hbase (by omega)
  have hg1 : w.grownBy w' ov.ownBlock := (World.grownBy_alloc _ _ _).trans hg
  refine ⟨ov', w', hrun, ⟨?_, by simp [h.len], fun k v r h1 h2 => ?_, fun j k v v' hjk h1 h2 => ?_⟩, (Below.refl base w).grown hg1 hbase (own_block h.row), fun b hb hne => hg1.block b hb (fun e => hne e.symm), hg1.size⟩
  · simpa using hown
  · rw [List.getElem?_append] at h1 h2
    rw [← h.len] at h2
    split at h1
    · rename_i hlt
      rw [if_pos hlt] at h2
      exact (h.each k v r h1 h2).kept hg1 (own_apart (h.each k v r h1 h2) h.row (by decide))
    · rename_i hlt
      rw [if_neg hlt] at h2
      have e : k - vals.length = 0 := by
        cases hq : k - vals.length with
        | zero => rfl
        | succ q => rw [hq] at h1; simp at h1
      rw [e] at h1 h2
      simp at h1 h2
      subst h1 h2
      exact World.ownsRow_nil _ _ _ _
  · rw [List.getElem?_append] at h1 h2
    split at h1
    · split at h2
      · exact h.apart j k v v' hjk h1 h2
      · have : v' = .slice none 0 0 := by
          cases hq : k - vals.length with
          | zero => rw [hq] at h2; simpa using h2.symm
          | succ q => rw [hq] at h2; simp at h2
        subst this
        cases hv : v.ownBlock with
        | none => exact .inl rfl
        | some b => exact .inr (by simp [Value.ownBlock])
    · have : v = .slice none 0 0 := by
        cases hq : j - vals.length with
        | zero => rw [hq] at h1; simpa using h1.symm
        | succ q => rw [hq] at h1; simp at h1
      subst this
      exact .inl rfl

/-- out[k] = append(out[k], s), at the last one. -/
theorem RowsOwn.grow {w : World} {base G cap : Nat} {vs : List Value} {v : Value} {qs : List (List St)} {r : List St} (h : RowsOwn w base (.slice (some ⟨G, 0, none⟩) (vs.length + 1) cap) (vs ++ [v]) (qs ++ [r])) (hq : qs.length = vs.length) (s : St) (hbase : base ≤ w.heap.size) (hlen : r.length ≤ 1000000) :
    ∃ v' w', (Builtin.append_ #[65, 65] 65 #[v, .slice (some ⟨w.heap.size, 0, none⟩) 1 1]).run Tryz.prog (w.alloc (.cells #[.int .i64 s.1, .int .i32 s.2.1, .int .i32 s.2.2] 90)) = .ok v' w' ∧ (∃ g c, v' = .slice (some ⟨g, 0, none⟩) (r.length + 1) c) ∧
      w'.cell? ⟨G, vs.length, none⟩ = some v ∧ w'.frozen? ⟨G, vs.length, none⟩ = false ∧ Below base w w' ∧ RowsOwn (w'.setCell ⟨G, vs.length, none⟩ v') base (.slice (some ⟨G, 0, none⟩) (vs.length + 1) cap) (vs ++ [v']) (qs ++ [r ++ [s]]) ∧ base ≤ G := by
  have hv : (vs ++ [v])[vs.length]? = some v := by simp
  have hr : (qs ++ [r])[vs.length]? = some r := by rw [← hq]; simp
  have ho := h.each _ _ _ hv hr
  obtain ⟨v', w', hrun, hown, hg, hob⟩ := append_one (P := Tryz.prog) (enc := stCell) (k := 3) (fun _ => rfl) st_one info_st rfl (by decide) (by decide) Tryz.underlying65 w base v r.length (stCells r) ho s hbase (by omega)
  have hg1 : w.grownBy w' v.ownBlock := (World.grownBy_alloc _ _ _).trans hg
  have hrow := h.row
  simp only [List.length_append, List.length_cons, List.length_nil, Nat.zero_add] at hrow
  have hap := own_apart hrow ho (by decide)
  have hrow' := hrow.kept hg1 hap
  have hc := own_cell' hrow' vs.length (by omega) v hv
  have hf := own_thaw hrow' vs.length
  have hGne : v'.ownBlock ≠ some G := by
    intro e
    rcases own_apart hown hrow' (by decide) with h0 | h0
    · rw [h0] at e; cases e
    · exact h0 (by rw [e]; rfl)
  have hGb : base ≤ G := own_block hrow G rfl
  refine ⟨v', w', hrun, ?_, hc, hf, (Below.refl base w).grown hg1 hbase (own_block ho), ⟨?_, by simp [hq], fun k u q h1 h2 => ?_, fun j k u u' hjk h1 h2 => ?_⟩, hGb⟩
  · exact ownsRow_succ hown
  · have := own_store hrow' vs.length (by omega) v'
    simpa using this
  · rw [List.getElem?_append] at h1 h2
    rw [hq] at h2
    split at h1
    · rename_i hlt
      rw [if_pos hlt] at h2
      have h1' : (vs ++ [v])[k]? = some u := by rw [List.getElem?_append_left hlt]; exact h1
      have h2' : (qs ++ [r])[k]? = some q := by rw [List.getElem?_append_left (by omega)]; exact h2
      have ho2 := h.each k u q h1' h2'
      have hne := h.apart k vs.length u v (by omega) h1' hv
      have hk1 := ho2.kept hg1 hne
      exact hk1.kept (grown_setCell w' G vs.length v') (by
        rcases own_apart ho2 hrow (by decide) with h0 | h0
        · exact .inl h0
        · exact .inr (by intro e; exact h0 (by rw [e]; rfl)))
    · rename_i hlt
      rw [if_neg hlt] at h2
      have e : k - vs.length = 0 := by
        cases hz : k - vs.length with
        | zero => rfl
        | succ z => rw [hz] at h1; simp at h1
      rw [e] at h1 h2
      simp at h1 h2
      subst h1 h2
      have := hown.kept (grown_setCell w' G vs.length v') (.inr hGne)
      rw [show stCells (r ++ [s]) = stCells r ++ stCell s by simp [stCells], List.length_append]
      simpa using this
  · have hnew : ∀ (i : Nat) (z : Value), i < vs.length → vs[i]? = some z → z.ownBlock = none ∨ z.ownBlock ≠ v'.ownBlock := fun i z hi hz => by
      have hz' : (vs ++ [v])[i]? = some z := by rw [List.getElem?_append_left hi]; exact hz
      have h0 := h.apart i vs.length z v (by omega) hz' hv
      rcases hob with hb | hb
      · rw [hb]; exact h0
      · cases hzb : z.ownBlock with
        | none => exact .inl rfl
        | some b =>
          right
          rw [hb]
          intro e
          obtain ⟨q, hq1, hq2⟩ := h.at hz'
          have := own_lt' hq2 b hzb
          have := Option.some.inj e
          omega
    have hlast : ∀ i z, ¬ i < vs.length → [v'][i - vs.length]? = some z → z = v' ∧ i = vs.length := fun i z hi hz => by
      cases hq : i - vs.length with
      | zero => rw [hq] at hz; exact ⟨by simpa using hz.symm, by omega⟩
      | succ q => rw [hq] at hz; simp at hz
    rw [List.getElem?_append] at h1 h2
    split at h1
    · rename_i hj
      split at h2
      · rename_i hk
        exact h.apart j k u u' hjk (by rw [List.getElem?_append_left hj]; exact h1) (by rw [List.getElem?_append_left hk]; exact h2)
      · rename_i hk
        obtain ⟨rfl, _⟩ := hlast k u' hk h2
        exact hnew j u hj h1
    · rename_i hj
      obtain ⟨rfl, e1⟩ := hlast j u hj h1
      split at h2
      · rename_i hk
        rcases hnew k u' hk h2 with h0 | h0
        · cases hu : u.ownBlock with
          | none => exact .inl rfl
          | some b => exact .inr (by rw [h0]; simp)
        · exact .inr (fun e => h0 e.symm)
      · rename_i hk
        obtain ⟨_, e2⟩ := hlast k u' hk h2
        omega

/-- The value reads as rows of steps. -/
def RRuns (w : World) (ov : Value) (rs : List (List St)) : Prop :=
  ∃ A c, ov = .slice A rs.length c ∧ (c ≤ maxLen) ∧ (0 < rs.length → ∃ b, A = some ⟨b, 0, none⟩ ∧ ∀ (k : Nat) r, rs[k]? = some r → ∃ v, w.cell? ⟨b, k, none⟩ = some v ∧ StRuns w v r)
theorem RRuns.below {w w' : World} {ov : Value} {rs : List (List St)} (h : RRuns w ov rs) (hb : Below w.heap.size w w') : RRuns w' ov rs := by
  obtain ⟨A, c, e, hm, hx⟩ := h
  refine ⟨A, c, e, hm, fun h0 => ?_⟩
  obtain ⟨b, eA, hc⟩ := hx h0
  refine ⟨b, eA, fun k r hk => ?_⟩
  obtain ⟨v, h1, h2⟩ := hc k r hk
  exact ⟨v, (hb.cell (cell_lt h1)).trans h1, h2.below hb⟩
theorem RowsOwn.runs {w : World} {base : Nat} {ov : Value} {vals : List Value} {rs : List (List St)} (h : RowsOwn w base ov vals rs) : RRuns w ov rs := by
  have hrow := h.row
  rcases hrow.2 with ⟨rfl, h0⟩ | ⟨g, cap, cur, rfl, hb, hg, h1, h2, h3, h4⟩
  · exact ⟨none, 0, by rw [← h.len, h0], by simp [maxLen], fun hp => by rw [← h.len, h0] at hp; omega⟩
  · refine ⟨_, cap, by rw [h.len], h2, fun hp => ⟨g, rfl, fun k r hk => ?_⟩⟩
    have hlt : k < vals.length := by have := (List.getElem?_eq_some_iff.1 hk).1; rw [h.len]; exact this
    refine ⟨vals[k], own_cell' hrow k (by omega) _ (List.getElem?_eq_getElem hlt), StRuns.of_own (h.each k _ r (List.getElem?_eq_getElem hlt) hk)⟩
end Go.Proofs.YtnognphjndpgkaaGreatDoor

/- errataref05.rows, walked. -/
namespace Go.Proofs.YtnognphjndpgkaaGreatDoor
open Go.RowKit Go.Shelf

theorem inRun_take (l : List St) (i : Nat) (hi : i + 1 ≤ l.length) : inRun (l.take (i + 1)) = ne0 (l.getD i (0, 0, 0)) := by
  have hlt : i < l.length := hi
  rw [List.take_succ_eq_append_getElem hlt, inRun_snoc, List.getD_eq_getElem?_getD, List.getElem?_eq_getElem hlt]
  rfl
theorem rowsP_take (l : List St) (i : Nat) (hi : i < l.length) : rowsP (l.take (i + 1)) = if (l.getD i (0, 0, 0)).1 = 0 then rowsP (l.take i) else if inRun (l.take i) = true then (rowsP (l.take i)).dropLast ++ [(rowsP (l.take i)).getLastD [] ++ [l.getD i (0, 0, 0)]] else rowsP (l.take i) ++ [[l.getD i (0, 0, 0)]] := by
  rw [List.take_succ_eq_append_getElem hi, rowsP_snoc, List.getD_eq_getElem?_getD, List.getElem?_eq_getElem hi]
  rfl
theorem rowsP_last (l : List St) (h : inRun l = true) : ∃ qs r, rowsP l = qs ++ [r] := by
  rcases List.eq_nil_or_concat (rowsP l) with h0 | ⟨qs, r, e⟩
  · exfalso
    rcases List.eq_nil_or_concat l with rfl | ⟨t, s, rfl⟩
    · simp [inRun] at h
    · rw [List.concat_eq_append] at h h0
      rw [inRun_snoc] at h
      exact rowsP_ne _ s (by simp) (ne0_true.1 h) h0
  · exact ⟨qs, r, by rw [e, List.concat_eq_append]⟩
theorem row_len (l r : List St) (h : r ∈ rowsP l) : r.length ≤ l.length := by
  obtain ⟨_, _, X, Y, e⟩ := rowsP_each l r h
  rw [e]; simp; omega

set_option maxRecDepth 100000 in
set_option maxHeartbeats 8000000 in
theorem refRows_any (u : Value) (l : List St) (w : World) (hu : StRuns w u l) (hl : l.length ≤ 1000000) :
    Calls Tryz.prog 58 #[u] w fun e w' => ∃ v, e = .returned v ∧ Hid (RRuns w' v (rowsP l)) ∧ Hid (Below w.heap.size w w') := by
  obtain ⟨A, c, rfl, hxc, ⟨hxm, _⟩, hxx⟩ := hu
  unfold maxLen at hxm
  obtain ⟨n, hn⟩ : ∃ n, l.length = n := ⟨_, rfl⟩
  rw [hn] at hxc hxx hl ⊢
  have HN := Lib.hid hn; clear hn
  have HX := Lib.hid hxx; clear hxx
  go_enter Tryz.func58, Tryz.ntmps58
  go_wp2
  go_loopg [3, 9] n (fun g s3 s9 wr => ∃ (i : Nat) (vals : List Value), s9 = .int .i64 i ∧ i ≤ n ∧ n - i ≤ g ∧ Hid (RowsOwn wr w.heap.size s3 vals (rowsP (l.take i))) ∧ Hid (Below w.heap.size w wr))
  case atStart => exact ⟨0, [], rfl, by omega, by omega, Lib.hid (by rw [List.take_zero, rowsP_nil]; exact RowsOwn.nil_ _ _), Lib.hid (Below.refl _ _)⟩
  case round =>
    obtain ⟨i, vals, rfl, hi, hg, HR, HB⟩ := hrel
    by_cases hlt : i < n
    · have hlt' : (i : Int) < (n : Int) := by omega
      obtain ⟨b, o, rfl, hb, hcell⟩ := HX.out (by omega)
      obtain ⟨e0, e1, e2⟩ := hcell i hlt
      have HRT := Lib.hid (rowsP_take l i (by rw [HN.out]; exact hlt))
      have hvl : vals.length ≤ n := by
        rw [HR.out.len]
        have := rowsP_len (l.take i)
        rw [List.length_take] at this
        omega
      obtain ⟨⟨kd, ra, rb⟩, hp⟩ : ∃ p, l.getD i (0, 0, 0) = p := ⟨_, rfl⟩
      rw [hp] at e0 e1 e2 HRT
      simp only at e0 e1 e2 HRT
      have f0 : wr.cell? ⟨b, o + i * 3, none⟩ = some (.int .i64 kd) := (HB.out.cell (show b < w.heap.size from hb)).trans e0
      have f1 : wr.cell? ⟨b, o + i * 3 + 1, none⟩ = some (.int .i32 ra) := (HB.out.cell (show b < w.heap.size from hb)).trans e1
      have f2 : wr.cell? ⟨b, o + i * 3 + 2, none⟩ = some (.int .i32 rb) := (HB.out.cell (show b < w.heap.size from hb)).trans e2
      clear e0 e1 e2 hp
      have hzb := HB.out.size
      by_cases hk0 : kd = 0
      · have HRN : Hid (rowsP (l.take (i + 1)) = rowsP (l.take i)) := Lib.hid (by rw [HRT.out, if_pos hk0])
        subst hk0
        clear hcell HRT
        go_wp2
        go_roundg (n - (i + 1))
        case measure => omega
        case rel => exact ⟨i + 1, vals, rfl, by omega, by omega, Lib.hid (by rw [HRN.out]; exact HR.out.alloc _), Lib.hid (HB.out.alloc HB.out.size _)⟩
      · have kb : (kd == 0) = false := beq_eq_false_iff_ne.2 hk0
        obtain ⟨wb, hwb⟩ : ∃ wb, wb = wr.alloc (.cells #[.int .i64 kd, .int .i32 ra, .int .i32 rb] 90) := ⟨_, rfl⟩
        have hzw : wb.heap.size = wr.heap.size + 1 := by rw [hwb]; simp
        have hbb : Below wr.heap.size wr wb := by rw [hwb]; exact (Below.refl _ _).alloc (Nat.le_refl _) _
        have hbox : wb.heap[wr.heap.size]? = some (.cells #[.int .i64 kd, .int .i32 ra, .int .i32 rb] 90) := by rw [hwb]; exact heap_alloc_new wr _
        have RB : Hid (RowsOwn wb w.heap.size u3 vals (rowsP (l.take i))) := Lib.hid (by rw [hwb]; exact HR.out.alloc _)
        have BB : Hid (Below w.heap.size w wb) := Lib.hid (HB.out.trans (hbb.mono HB.out.size))
        by_cases hrun : inRun (l.take i) = true
        · -- the last row goes on
          have HRN : Hid (rowsP (l.take (i + 1)) = (rowsP (l.take i)).dropLast ++ [(rowsP (l.take i)).getLastD [] ++ [(kd, ra, rb)]]) := Lib.hid (by rw [HRT.out, if_neg hk0, if_pos hrun])
          obtain ⟨qs, r, hqs⟩ := rowsP_last _ hrun
          have hi0 : 0 < i := by
            rcases Nat.eq_zero_or_pos i with h0 | h0
            · subst h0; rw [List.take_zero] at hrun; simp [inRun] at hrun
            · exact h0
          obtain ⟨i', hi'⟩ : ∃ z : Nat, (i : Int) - 1 = (z : Int) := ⟨i - 1, by omega⟩
          have ei : i = i' + 1 := by omega
          have hprev : ne0 (l.getD i' (0, 0, 0)) = true := by
            have := inRun_take l i' (by rw [HN.out]; omega)
            rw [← ei, hrun] at this
            exact this.symm
          have HEi := Lib.hid ei; clear ei
          obtain ⟨g0, _, _⟩ := hcell i' (by omega)
          obtain ⟨kp, hkp⟩ : ∃ z, (l.getD i' (0, 0, 0)).1 = z := ⟨_, rfl⟩
          have hkp0 : kp ≠ 0 := by rw [← hkp]; exact ne0_true.1 hprev
          rw [hkp] at g0
          have g1 : wr.cell? ⟨b, o + i' * 3, none⟩ = some (.int .i64 kp) := (HB.out.cell (show b < w.heap.size from hb)).trans g0
          have g2 : wb.cell? ⟨b, o + i' * 3, none⟩ = some (.int .i64 kp) := (hbb.cell (show b < wr.heap.size by omega)).trans g1
          have kpb : (kp == 0) = false := beq_eq_false_iff_ne.2 hkp0
          have ib : ((i : Int) == 0) = false := beq_eq_false_iff_ne.2 (by omega)
          clear hcell hkp hprev g0 hrun
          rw [hqs] at RB HRN
          have hRB := RB.out
          have hvl2 : vals.length = qs.length + 1 := by rw [hRB.len]; simp
          obtain ⟨vs, v, rfl⟩ : ∃ vs v, vals = vs ++ [v] := by
            rcases List.eq_nil_or_concat vals with rfl | ⟨vs, v, e⟩
            · simp at hvl2
            · exact ⟨vs, v, by rw [e, List.concat_eq_append]⟩
          have hq : qs.length = vs.length := by simp at hvl2; omega
          have hrl : r.length ≤ 1000000 := by
            have h1 := row_len (l.take i) r (by rw [hqs]; simp)
            rw [List.length_take] at h1
            omega
          have hrow := hRB.row
          simp only [List.length_append, List.length_cons, List.length_nil, Nat.zero_add] at hrow
          obtain ⟨G, cap, rfl⟩ := ownsRow_succ hrow
          have hR0 : RowsOwn wb w.heap.size (.slice (some ⟨G, 0, none⟩) (vs.length + 1) cap) (vs ++ [v]) (qs ++ [r]) := hRB
          have B0 := BB
          have x0 : wb.cell? ⟨wr.heap.size, 0, none⟩ = some (.int .i64 kd) := by rw [cell_of_row wb _ _ _ _ (0, 0) hbox]; rfl
          have x1 : wb.cell? ⟨wr.heap.size, 1, none⟩ = some (.int .i32 ra) := by rw [cell_of_row wb _ _ _ _ (0, 0) hbox]; rfl
          have x2 : wb.cell? ⟨wr.heap.size, 2, none⟩ = some (.int .i32 rb) := by rw [cell_of_row wb _ _ _ _ (0, 0) hbox]; rfl
          have hgr := RowsOwn.grow (w := wb.drew) (s := (kd, ra, rb)) ⟨hR0.row, hR0.len, hR0.each, hR0.apart⟩ hq B0.out.size hrl
          obtain ⟨v', w5, hrun5, ⟨g5, c5, rfl⟩, hc5, hf5, hb5, hR5, hG5⟩ := hgr
          have hcv : wb.cell? ⟨G, vs.length, none⟩ = some v := own_cell' hrow vs.length (by omega) v (by simp)
          obtain ⟨vA, vn, vc, rfl⟩ : ∃ A n c, v = .slice A n c := by
            obtain ⟨q, _, hq2⟩ := hR0.at (k := vs.length) (v := v) (by simp)
            obtain ⟨A, c, e, _⟩ := StRuns.of_own hq2
            exact ⟨A, _, c, e⟩
          have hGlt : G < wb.heap.size := cell_lt hcv
          have hcv2 : (wb.alloc (.cells #[.int .i64 kd, .int .i32 ra, .int .i32 rb] 90)).cell? ⟨G, vs.length, none⟩ = some (.slice vA vn vc) := (((Below.refl wb.heap.size wb).alloc (Nat.le_refl _) _).cell (p := ⟨G, vs.length, none⟩) hGlt).trans hcv
          have hrun' : (Builtin.append_ #[65, 65] 65 #[.slice vA vn vc, .slice (some ⟨wb.heap.size, 0, none⟩) 1 1]).run Tryz.prog ((wb.alloc (.cells #[.int .i64 kd, .int .i32 ra, .int .i32 rb] 90)).drew) = .ok (.slice (some ⟨g5, 0, none⟩) (r.length + 1) c5) w5 := hrun5
          have HRU := Lib.hid hrun'; clear hrun5 hrun'
          have HR5 := Lib.hid hR5; clear hR5
          have HB5 : Hid (Below w.heap.size w w5) := Lib.hid (B0.out.drew.trans hb5); clear hb5
          have HROW := Lib.hid hrow; clear hrow
          have HRX := Lib.hid hR0; clear hR0
          obtain ⟨m, hm⟩ : ∃ m, vs.length = m := ⟨_, rfl⟩
          rw [hm] at hc5 hf5 hcv hcv2 HR5
          have hmn : m ≤ n := by rw [← hm]; have := hvl; simp at this; omega
          have HMM := Lib.hid hm; clear hm
          have iM : (m : Int) < (m : Int) + 1 := by omega
          have hmix : Tryz.prog.follows .mixedOrders = true := by kernel_rfl
          have qm : IntKind.i64.wrap (m : Int) = (m : Int) := by rw [IntKind.wrap_i64]; omega
          have HHB := Lib.hid hbb; clear hbb
          have HBX := Lib.hid hbox; clear hbox
          clear hRB
          rw [hwb] at g2
          go_wp2_with fail
          rw [HMM.out] at *
          rw [← hwb]
          clear g2 hwb
          apply wp_region_at (W := w5.setCell ⟨G, m, none⟩ (.slice (some ⟨g5, 0, none⟩) (r.length + 1) c5))
          · go_region_law ((refine step_append_run' ?_ (.tmp 39) (.tmp 41) 65 _ _ _ _ ?_ HRU.out ?_ ?_ ?_; rfl; rfl; go_simp; go_simp))
            all_goals exact ⟨rfl, rfl⟩
          go_wp2
          go_roundg (n - (i + 1))
          case measure => omega
          case rel => exact ⟨i + 1, vs ++ [.slice (some ⟨g5, 0, none⟩) (r.length + 1) c5], rfl, by omega, by omega, Lib.hid (by rw [HRN.out]; simpa using HR5.out), Lib.hid (HB5.out.setCell hG5 _)⟩
        · have HRN : Hid (rowsP (l.take (i + 1)) = rowsP (l.take i) ++ [[(kd, ra, rb)]]) := Lib.hid (by rw [HRT.out, if_neg hk0, if_neg hrun])
          have htest : ((i : Int) == 0) = true ∨ (((i : Int) == 0) = false ∧ ∃ i' : Nat, (i : Int) - 1 = (i' : Int) ∧ i' < n ∧ (wr.alloc (.cells #[.int .i64 kd, .int .i32 ra, .int .i32 rb] 90)).cell? ⟨b, o + i' * 3, none⟩ = some (.int .i64 0)) := by
            rcases Nat.eq_zero_or_pos i with h0 | h0
            · left; subst h0; rfl
            · right
              refine ⟨beq_eq_false_iff_ne.2 (by omega), i - 1, by omega, by omega, ?_⟩
              have hz : (l.getD (i - 1) (0, 0, 0)).1 = 0 := by
                have h1 := inRun_take l (i - 1) (by rw [HN.out]; omega)
                rw [show i - 1 + 1 = i by omega] at h1
                have h2 : inRun (l.take i) = false := by simpa using hrun
                rw [h2] at h1
                exact ne0_false.1 h1.symm
              obtain ⟨g0, _, _⟩ := hcell (i - 1) (by omega)
              rw [hz] at g0
              rw [← hwb]
              exact (hbb.cell (show b < wr.heap.size by omega)).trans ((HB.out.cell (show b < w.heap.size from hb)).trans g0)
          obtain ⟨ov', w6, hrunP, hRP, hbP, hkP, hzP⟩ := RB.out.push BB.out.size (by omega)
          have hrow := hRP.row
          simp only [List.length_append, List.length_cons, List.length_nil, Nat.zero_add] at hrow
          obtain ⟨G, cap, rfl⟩ := ownsRow_succ hrow
          have hu3 : u3.ownBlock ≠ some wr.heap.size := fun e => Nat.lt_irrefl _ (own_lt' HR.out.row _ e)
          have hbox6 : w6.heap[wr.heap.size]? = some (.cells #[.int .i64 kd, .int .i32 ra, .int .i32 rb] 90) := (hkP wr.heap.size (by omega) hu3).trans hbox
          have x0 : w6.cell? ⟨wr.heap.size, 0, none⟩ = some (.int .i64 kd) := by rw [cell_of_row w6 _ _ _ _ (0, 0) hbox6]; rfl
          have x1 : w6.cell? ⟨wr.heap.size, 1, none⟩ = some (.int .i32 ra) := by rw [cell_of_row w6 _ _ _ _ (0, 0) hbox6]; rfl
          have x2 : w6.cell? ⟨wr.heap.size, 2, none⟩ = some (.int .i32 rb) := by rw [cell_of_row w6 _ _ _ _ (0, 0) hbox6]; rfl
          have B0 : Hid (Below w.heap.size w w6) := Lib.hid (BB.out.trans hbP)
          obtain ⟨vs, hvs⟩ : ∃ vs, vals = vs := ⟨_, rfl⟩
          subst hvs
          obtain ⟨qs, hqs⟩ : ∃ qs, rowsP (l.take i) = qs := ⟨_, rfl⟩
          rw [hqs] at hRP HRN RB
          obtain ⟨r, hr⟩ : ∃ r : List St, ([] : List St) = r := ⟨_, rfl⟩
          rw [hr] at hRP
          have hrl : r.length ≤ 1000000 := by rw [← hr]; simp
          obtain ⟨v, hv⟩ : ∃ v, Value.slice none 0 0 = v := ⟨_, rfl⟩
          rw [hv] at hRP hrow
          have HVV := Lib.hid hv
          have hR0 : RowsOwn w6 w.heap.size (.slice (some ⟨G, 0, none⟩) (vals.length + 1) cap) (vals ++ [v]) (qs ++ [r]) := hRP
          have hq : qs.length = vals.length := RB.out.len.symm
          clear hv
          have hgr := RowsOwn.grow (w := w6.drew) (s := (kd, ra, rb)) ⟨hR0.row, hR0.len, hR0.each, hR0.apart⟩ hq B0.out.size hrl
          obtain ⟨v', w5, hrun5, ⟨g5, c5, rfl⟩, hc5, hf5, hb5, hR5, hG5⟩ := hgr
          have hcv : w6.cell? ⟨G, vals.length, none⟩ = some v := own_cell' hrow vals.length (by omega) v (by simp)
          obtain ⟨vA, vn, vc, rfl⟩ : ∃ A n c, v = .slice A n c := by
            obtain ⟨q, _, hq2⟩ := hR0.at (k := vals.length) (v := v) (by simp)
            obtain ⟨A, c, e, _⟩ := StRuns.of_own hq2
            exact ⟨A, _, c, e⟩
          have hGlt : G < w6.heap.size := cell_lt hcv
          have hcv2 : (w6.alloc (.cells #[.int .i64 kd, .int .i32 ra, .int .i32 rb] 90)).cell? ⟨G, vals.length, none⟩ = some (.slice vA vn vc) := (((Below.refl w6.heap.size w6).alloc (Nat.le_refl _) _).cell (p := ⟨G, vals.length, none⟩) hGlt).trans hcv
          have hrun' : (Builtin.append_ #[65, 65] 65 #[.slice vA vn vc, .slice (some ⟨w6.heap.size, 0, none⟩) 1 1]).run Tryz.prog ((w6.alloc (.cells #[.int .i64 kd, .int .i32 ra, .int .i32 rb] 90)).drew) = .ok (.slice (some ⟨g5, 0, none⟩) (r.length + 1) c5) w5 := hrun5
          have HRU := Lib.hid hrun'; clear hrun5 hrun'
          have HR5 := Lib.hid hR5; clear hR5
          have HB5 : Hid (Below w.heap.size w w5) := Lib.hid (B0.out.drew.trans hb5); clear hb5
          have HROW := Lib.hid hrow; clear hrow
          have HRX := Lib.hid hR0; clear hR0
          obtain ⟨m, hm⟩ : ∃ m, vals.length = m := ⟨_, rfl⟩
          rw [hm] at hc5 hf5 hcv hcv2 HR5
          have hmn : m ≤ n := by rw [← hm]; exact hvl
          have HMM := Lib.hid hm; clear hm
          have iM : (m : Int) < (m : Int) + 1 := by omega
          have hmix : Tryz.prog.follows .mixedOrders = true := by kernel_rfl
          have qm : IntKind.i64.wrap (m : Int) = (m : Int) := by rw [IntKind.wrap_i64]; omega
          have HRPu := Lib.hid hrunP; clear hrunP
          have HHB := Lib.hid hbb; clear hbb
          have HBX := Lib.hid hbox; clear hbox
          have HB6 := Lib.hid hbox6; clear hbox6
          have HRr := Lib.hid hr; clear hr
          have HKP := Lib.hid hkP; clear hkP
          rw [hwb] at HRPu
          have hzw2 : (wr.alloc (.cells #[.int .i64 kd, .int .i32 ra, .int .i32 rb] 90)).heap.size = wr.heap.size + 1 := by simp
          rw [hzw2] at HRPu
          clear hcell hzw2 hRP hrun
          rw [HMM.out] at *
          clear hwb
          rcases htest with ib | ⟨ib, i', hi', hi2, g2⟩
          all_goals
            try have ii : (i' : Int) < (n : Int) := by omega
            go_wp2_with (at_builtin; refine wpList_append_run (.tmp 28) (.tmp 29) 103 _ _ _ _ HRPu.out rfl rfl rfl rfl ?_)
            apply wp_region_at (W := w5.setCell ⟨G, m, none⟩ (.slice (some ⟨g5, 0, none⟩) (r.length + 1) c5))
            · go_region_law ((refine step_append_run' ?_ (.tmp 39) (.tmp 41) 65 _ _ _ _ ?_ HRU.out ?_ ?_ ?_; rfl; rfl; go_simp; go_simp))
              all_goals exact ⟨rfl, rfl⟩
            go_wp2
            go_roundg (n - (i + 1))
            case measure => omega
            case rel => exact ⟨i + 1, vals ++ [.slice (some ⟨g5, 0, none⟩) (r.length + 1) c5], rfl, by omega, by omega, Lib.hid (by rw [HRN.out]; simpa [← HRr.out] using HR5.out), Lib.hid (HB5.out.setCell hG5 _)⟩
    · obtain rfl : i = n := by omega
      have hR := HR.out.runs
      rw [List.take_of_length_le (by rw [HN.out]; exact Nat.le_refl _)] at hR
      have HRR := Lib.hid hR; clear hR
      go_wp2
      go_ret
      exact ⟨_, rfl, HRR, HB⟩
end Go.Proofs.YtnognphjndpgkaaGreatDoor

