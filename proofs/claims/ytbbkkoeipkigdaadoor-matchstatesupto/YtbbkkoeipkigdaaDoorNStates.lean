/- MatchStates, walked over what match's, rule's and runes' functions answer. -/
import Derived.Test.YtbbkkoeipkigdaaDoorNMap
import Derived.Test.YtbbkkoeipkigdaaDoorPk6
import Derived.Test.YtbbkkoeipkigdaaDoorPk13
import Derived.Test.YtbbkkoeipkigdaaDoorQNor
import Derived.Deep.CutRange
import Derived.BigQuiet
namespace Go.Proofs.YtbbkkoeipkigdaaDoor
open Go.RowKit Go.Shelf
set_option linter.unusedSimpArgs false
set_option linter.unusedVariables false

/-- The ways in which two literals come to lie. -/
theorem lay8_1 (D : World) (b : Nat) (hb : b ≤ D.heap.size) (x : Blk) : ((D.alloc (.cells #[] 55)).alloc (.cells #[.string x.1, .string x.2.1, .int .i64 x.2.2] 55)).ownsRow b 55 3 (.slice (some ⟨D.heap.size, 0, none⟩) 0 0) 0 [] ∧
    GRuns blkCell 3 ((D.alloc (.cells #[] 55)).alloc (.cells #[.string x.1, .string x.2.1, .int .i64 x.2.2] 55)) (.slice (some ⟨D.heap.size + 1, 0, none⟩) 1 1) [x] := by
  have h := rule_litR (D.alloc (.cells #[] 55)) x
  rw [World.size_alloc] at h
  exact ⟨(own_litR D b hb).alloc _, h⟩
theorem lay8_2 (D : World) (b : Nat) (hb : b ≤ D.heap.size) (x : Blk) : ((D.alloc (.cells #[.string x.1, .string x.2.1, .int .i64 x.2.2] 55)).alloc (.cells #[] 55)).ownsRow b 55 3 (.slice (some ⟨D.heap.size + 1, 0, none⟩) 0 0) 0 [] ∧
    GRuns blkCell 3 ((D.alloc (.cells #[.string x.1, .string x.2.1, .int .i64 x.2.2] 55)).alloc (.cells #[] 55)) (.slice (some ⟨D.heap.size, 0, none⟩) 1 1) [x] := by
  have h := own_litR (D.alloc (.cells #[.string x.1, .string x.2.1, .int .i64 x.2.2] 55)) b (by simp; omega)
  rw [World.size_alloc] at h
  exact ⟨h, (rule_litR D x).below ((Below.refl _ _).alloc (Nat.le_refl _) _)⟩
/-- What is known behind the first append, the second, the third. -/
structure Rp8 (w D : World) (t : List Blk) (v : Value) (W' : World) : Prop where
  own : W'.ownsRow w.heap.size 55 3 v t.length (gCells blkCell t)
  bel : Below D.heap.size D W'
  at_ : ∀ b, v.ownBlock = some b → D.heap.size ≤ b
/-- One append more, told in one word. -/
theorem Rp8.next {w D W W' : World} {t ys : List Blk} {v v' : Value} {n : Nat} {xs : List Value} (hn : n = t.length) (hxs : xs = gCells blkCell t) (hD : w.heap.size ≤ D.heap.size) (hbW : Below D.heap.size D W) (hv : ∀ b, v.ownBlock = some b → D.heap.size ≤ b)
    (h1 : W'.ownsRow w.heap.size 55 3 v' (n + ys.length) (xs ++ gCells blkCell ys)) (h2 : W.grownBy W' v.ownBlock) (h3 : v'.ownBlock = v.ownBlock ∨ v'.ownBlock = some W.heap.size) : Rp8 w D (t ++ ys) v' W' := by
  subst hn hxs
  refine ⟨by rw [List.length_append, gCells_append]; exact h1, hbW.grown h2 hbW.size (fun b hb => hv b hb), fun b hb => ?_⟩
  rcases h3 with e | e
  · rw [e] at hb; exact hv b hb
  · rw [e] at hb
    have := hbW.size
    obtain rfl : W.heap.size = b := by simpa using hb
    exact this

theorem szL_nor8 {l : List Blk} (h : szL l) : szL (norS l) := by
  unfold norS
  split
  · intro b hb
    obtain ⟨y, hy, e⟩ := nrm_keys l b hb
    rw [e.1, e.2]; exact h y hy
  · exact fun b hb => by simp at hb
theorem norS_len8 (l : List Blk) : (norS l).length ≤ l.length := by
  unfold norS
  split
  · exact nrm_len l
  · simp

/-- A rule whose cost is 7. -/
def c7 (b : Blk) : Blk := (b.1, b.2.1, 7)
theorem c7_frs (L : List Blk) : frs (L.map c7) = frs L := by
  unfold frs
  rw [List.map_map]
  rfl
theorem c7_srt : ∀ {L : List Blk}, Srt L → Srt (L.map c7)
  | [], _ => trivial
  | a :: l, h => ⟨fun b hb => by
      obtain ⟨z, hz, rfl⟩ := List.mem_map.1 hb
      exact h.1 z hz, c7_srt h.2⟩
theorem c7_ris {L : List Blk} (h : risS L = 0) : risS (L.map c7) = 0 := by
  obtain ⟨h1, h2, h3⟩ := risS_facts h
  refine risS_of (rall_zero.2 fun b hb => ?_) (c7_srt h2) (by rw [List.length_map]; exact h3)
  obtain ⟨z, hz, rfl⟩ := List.mem_map.1 hb
  exact rchk_key (rall_zero.1 h1 z hz) ⟨rfl, rfl⟩ (by show (1 : Int) ≤ 7; omega) (by show (7 : Int) ≤ 255; omega)
theorem c7_szL {L : List Blk} (h : szL L) : szL (L.map c7) := fun b hb => by
  obtain ⟨z, hz, rfl⟩ := List.mem_map.1 hb
  exact h z hz
/-- The first rules cost 7, the others what they did. -/
def mid7 (L : List Blk) (k : Nat) : List Blk := (L.take k).map c7 ++ L.drop k
theorem mid7_zero (L : List Blk) : mid7 L 0 = L := rfl
theorem mid7_all (L : List Blk) : mid7 L L.length = L.map c7 := by simp [mid7]
theorem mid7_len (L : List Blk) (k : Nat) : (mid7 L k).length = L.length := by simp [mid7]; omega
theorem mid7_at {L : List Blk} {k : Nat} {b : Blk} (h : L[k]? = some b) : (mid7 L k)[k]? = some b := by
  have hk := (List.getElem?_eq_some_iff.1 h).1
  have e : ((L.take k).map c7).length = k := by rw [List.length_map, List.length_take]; omega
  unfold mid7
  rw [List.getElem?_append_right (by omega), e, Nat.sub_self, List.getElem?_drop]
  exact h
theorem mid7_step {L : List Blk} {k : Nat} {b : Blk} (h : L[k]? = some b) : (mid7 L k).set k (c7 b) = mid7 L (k + 1) := by
  obtain ⟨hk, e0⟩ := List.getElem?_eq_some_iff.1 h
  have e : ((L.take k).map c7).length = k := by rw [List.length_map, List.length_take]; omega
  unfold mid7
  rw [List.set_append_right _ _ (by omega), e, Nat.sub_self, List.drop_eq_getElem_cons hk, e0, List.set_cons_zero, List.take_add_one, h, List.map_append]
  simp
/-- How many runes the first rules have together. -/
def sum8 (L : List Blk) (k : Nat) : Nat := ((L.take k).map (fun b => (items b.1.data.toList).length)).sum
theorem sum8_step {L : List Blk} {k : Nat} {b : Blk} (h : L[k]? = some b) : sum8 L (k + 1) = sum8 L k + (items b.1.data.toList).length := by
  unfold sum8
  rw [List.take_add_one, h, List.map_append, List.sum_append]
  simp
theorem sum8_all (L : List Blk) : sum8 L L.length = ((frs L).map List.length).sum := by
  unfold sum8 frs
  rw [List.take_length, List.map_map]
  rfl
theorem sum8_le {L : List Blk} (h : ∀ b ∈ L, (items b.1.data.toList).length ≤ 3) (k : Nat) : sum8 L k ≤ k * 3 := by
  induction k with
  | zero => simp [sum8]
  | succ k ih =>
    cases hk : L[k]? with
    | none =>
      have e : L.take (k + 1) = L.take k := by rw [List.take_add_one, hk]; simp
      unfold sum8 at ih ⊢
      rw [e]; omega
    | some b =>
      rw [sum8_step hk]
      have := h b (List.mem_of_getElem? hk)
      omega
/-- The rules with one more, made normal: how many states. -/
theorem more_states {L : List Blk} {r : Blk} (h : norE (L ++ [r]) = 0) : statesP (frs L) ≤ statesP (frs (norS (L ++ [r]))) ∧ statesP (frs (norS (L ++ [r]))) ≤ statesP (frs L) + 3 := by
  obtain ⟨h1, _⟩ := norE_facts h
  have h3 : (items r.1.data.toList).length ≤ 3 := (rchk_from (rall_zero.1 h1 r (by simp))).2
  constructor
  · refine states_more fun f hf => ?_
    obtain ⟨b, hb, rfl⟩ := List.mem_map.1 hf
    obtain ⟨q1, q2⟩ := nor_find h b (List.mem_append_left _ hb)
    have hex : ∃ z ∈ norS (L ++ [r]), sameS z b := Classical.byContradiction fun hn => by
      have := lst_none (l := norS (L ++ [r])) (k := b) (fun z hz e => hn ⟨z, hz, e⟩)
      omega
    obtain ⟨z, hz, e⟩ := hex
    exact List.mem_map.2 ⟨z, hz, by rw [e.1]⟩
  · refine Nat.le_trans (states_one (F := frs L) (items r.1.data.toList) fun g hg => ?_) (by omega)
    obtain ⟨z, hz, rfl⟩ := List.mem_map.1 hg
    rw [norS, if_pos h] at hz
    obtain ⟨y, hy, e⟩ := nrm_keys _ z hz
    rcases List.mem_append.1 hy with h4 | h4
    · exact .inl (List.mem_map.2 ⟨y, h4, by rw [e.1]⟩)
    · rw [List.mem_singleton] at h4
      subst h4
      exact .inr (by rw [e.1])
theorem rules_from {L : List Blk} (h : risS L = 0) : ∀ b ∈ L, decRunes b.1.data.toList = items b.1.data.toList ∧ decErr b.1.data.toList = 0 ∧ (items b.1.data.toList).length ≤ 3 := fun b hb => by
  obtain ⟨h1, _, _⟩ := risS_facts h
  obtain ⟨h2, h3⟩ := rchk_from (rall_zero.1 h1 b hb)
  exact ⟨by simp [decRunes, h2], by simp [decErr, h2], h3⟩
theorem step_call2 {P : Program} {ops : Array Oper} {o : Oper} {a : Act} {w : World} {K : Act → World → Prop} {Q : Exit → Act → World → Prop} {E : Prop} (hgd : o.guard = none) (f : Nat) (x y : Operand) (t t' : TypeId) (hop : o.op = .call { callee := .value (.func f), args := #[x, y], argTypes := #[t, t'] })
    (eg : ∀ args w, (callFunc f args).run P w = .ok (.enter f args) w) {u u' : Value} (hx : a.eval x = u) (hy : a.eval y = u') {Post : Ending → World → Prop} (hc : Calls P f #[u, u'] w Post) (h : ∀ e w', Post e w' → ∃ v, e = .returned v ∧ K (a.put o.dst v) w') :
    if Region.wanted o (yielded ops a.tmps) = true then Oper.wp P o a w K Q else E := by
  have hw : Region.wanted o (yielded ops a.tmps) = true := by simp [Region.wanted, hgd]
  rw [if_pos hw]
  unfold Oper.wp
  have he : (execOp a.eval o).run P w = .ok (.enter f #[u, u']) w := by
    have hf : a.eval (.func f) = .func (.func f) #[] #[] := rfl
    simp [execOp, hop, resolve, invoke, Deferred.ofValue, hf, hx, hy, eg, Result.andThen]
  rw [he, Oper.upon_enter]
  refine hc.mono ?_
  intro e w' hp
  obtain ⟨v, rfl, hk⟩ := h e w' hp
  exact hk

set_option maxRecDepth 100000 in
set_option maxHeartbeats 16000000 in
theorem matchStates_walk (u : Value) (L : List Blk) (r1 r2 : ByteArray) (r3 : Int) (w : World) (h : Okw w) (hu : BRuns w u L) (hl : L.length ≤ 1000000) (hz : szL L) (hr1 : r1.size ≤ 2000000) (hr2 : r2.size ≤ 2000000) :
    Calls Tryd.prog 7 #[u, .agg #[.string r1, .string r2, .int .i64 r3]] w (RetTrue w) := by
  have hzr : szL (L ++ [(r1, r2, r3)]) := fun b hb => by
    rcases List.mem_append.1 hb with hb | hb
    · exact hz b hb
    · rw [List.mem_singleton] at hb; subst hb; exact ⟨hr1, hr2⟩
  have hlr : (L ++ [(r1, r2, r3)]).length ≤ 2000000 := by simp; omega
  have cn := fun W hO hu => new_any u L W hO hu (by omega) hz
  have cn7 := fun v W hO hu => new_any v (L.map c7) W hO hu (by rw [List.length_map]; omega) (c7_szL hz)
  have cg := fun v W hu => great8_det v (L ++ [(r1, r2, r3)]) ⟨#[]⟩ W hu (szM_of hzr) (by decide)
  have cr := fun v W hO hu => rnormal_any v (L ++ [(r1, r2, r3)]) W hO hu hlr hzr
  have cnn := fun v W hO hu => new_any v (norS (L ++ [(r1, r2, r3)])) W hO hu (Nat.le_trans (norS_len8 _) hlr) (szL_nor8 hzr)
  have hmr := fun h => @mrules_of L h
  have h7 := fun h => @c7_ris L h
  have hni := fun h => @nor_is (L ++ [(r1, r2, r3)]) h
  have hms := fun h => @more_states L (r1, r2, r3) h
  have hrf := fun h => @rules_from L h
  have hgl : grB8 (L ++ [(r1, r2, r3)]) (ByteArray.size ⟨#[]⟩) = false → L.length ≤ 200 := fun h => by have := (grB8_no h).1; simp at this; omega
  obtain ⟨A, c, e⟩ := hu.slice
  obtain ⟨n, hn⟩ : ∃ n, L.length = n := ⟨_, rfl⟩
  rw [hn] at e hgl
  subst e
  obtain ⟨er, her⟩ : ∃ z, risS L = z := ⟨_, rfl⟩
  simp only [her] at cn hmr h7 hrf
  obtain ⟨gr, hgr⟩ : ∃ z, grB8 (L ++ [(r1, r2, r3)]) (ByteArray.size ⟨#[]⟩) = z := ⟨_, rfl⟩
  simp only [hgr] at cg hgl
  have hbox : Below w.heap.size w (w.alloc (.cells #[.string r1, .string r2, .int .i64 r3] 55)) := (Below.refl _ _).alloc (Nat.le_refl _) _
  obtain ⟨k0, k1, k2⟩ := cells3_new w (.string r1) (.string r2) (.int .i64 r3) 55
  have hxz : (w.alloc (.cells #[.string r1, .string r2, .int .i64 r3] 55)).heap.size = w.heap.size + 1 := by simp
  obtain ⟨wx, hwx⟩ : ∃ z, w.alloc (.cells #[.string r1, .string r2, .int .i64 r3] 55) = z := ⟨_, rfl⟩
  rw [hwx] at hbox k0 k1 k2 hxz
  obtain ⟨bx, hbx⟩ : ∃ z, w.heap.size = z := ⟨_, rfl⟩
  rw [hbx] at k0 k1 k2 hxz
  have HWX := Lib.hid hwx; have HBX := Lib.hid hbx
  have KB : Hid (BoxK wx bx (r1, r2, r3) wx) := Lib.hid ⟨k0, k1, k2, by rw [hxz]; omega, Below.refl _ _⟩
  have C0 := Lib.hid (alive8_any _ (h.below hbox))
  have BX := Lib.hid hbox
  have CN := Lib.hid cn; have CN7 := Lib.hid cn7; have CG := Lib.hid cg; have CR := Lib.hid cr; have CNN := Lib.hid cnn
  have HMR := Lib.hid hmr; have H7 := Lib.hid h7; have HNI := Lib.hid hni; have HMS := Lib.hid hms; have HRF := Lib.hid hrf; have HGL := Lib.hid hgl
  have HU := Lib.hid hu; have HOK := Lib.hid h; have HN := Lib.hid hn; have HZ := Lib.hid hz
  clear cn cn7 cg cr cnn hmr h7 hni hms hrf hgl hu h hn her hgr hz hzr hlr k0 k1 k2 hxz hbox hwx
  go_enter Tryd.func7, Tryd.ntmps7
  go_wp2_with fail
  rw [HWX.out]
  refine C0.out.mono ?_
  rintro e w1 ⟨rfl, b1⟩
  have KB1 := Lib.hid (KB.out.step b1)
  have B1 := Lib.hid (BX.out.trans (b1.mono BX.out.size))
  clear b1 C0 KB BX HWX hbx
  go_wp2_with fail
  refine (CN.out w1 (HOK.out.below B1.out) (HU.out.below B1.out)).mono ?_
  rintro e w2 ⟨mv, rfl, hN, b2⟩
  have B2 := Lib.hid (B1.out.trans (b2.mono B1.out.size))
  have KB2 := Lib.hid (KB1.out.step b2)
  have HNP := Lib.hid hN
  clear b2 hN B1 KB1 CN
  go_upto_region 4 with fail
  go_cut [36] from 26 to 36 (fun s36 wc => s36 = .bool (gr || (er != 0)) ∧ Hid (Below w2.heap.size w2 wc))
  case first =>
    have X1 := Lib.hid ((HU.out.below B2.out).below ((Below.refl w2.heap.size w2).drew))
    have SD : w2.heap.size ≤ w2.drew.heap.size := Nat.le_refl _
    have KD := Lib.hid (KB2.out.step ((Below.refl w2.heap.size w2).drew))
    have CE : Hid (∀ W, Below w2.drew.heap.size w2.drew W → W.cell? ⟨bx, 0, none⟩ = some (.string r1) ∧ W.cell? ⟨bx, 1, none⟩ = some (.string r2) ∧ W.cell? ⟨bx, 2, none⟩ = some (.int .i64 r3)) := Lib.hid (fun W hb => by
      have k := KD.out.step hb
      exact ⟨k.b0, k.b1, k.b2⟩)
    obtain ⟨x3, x4, x5⟩ := CE.out w2.drew (Below.refl _ _)
    obtain ⟨a3, a4, a5⟩ := CE.out _ (blw_1 w2.drew (.cells #[] 55))
    have y3 : w2.cell? ⟨bx, 0, none⟩ = some (.string r1) := x3
    have y4 : w2.cell? ⟨bx, 1, none⟩ = some (.string r2) := x4
    have y5 : w2.cell? ⟨bx, 2, none⟩ = some (.int .i64 r3) := x5
    have b3 : (w2.alloc (.cells #[] 55)).cell? ⟨bx, 0, none⟩ = some (.string r1) := a3
    have b4 : (w2.alloc (.cells #[] 55)).cell? ⟨bx, 1, none⟩ = some (.string r2) := a4
    have b5 : (w2.alloc (.cells #[] 55)).cell? ⟨bx, 2, none⟩ = some (.int .i64 r3) := a5
    have d3 : (w2.alloc (.cells #[] 55)).drew.cell? ⟨bx, 0, none⟩ = some (.string r1) := a3
    have d4 : (w2.alloc (.cells #[] 55)).drew.cell? ⟨bx, 1, none⟩ = some (.string r2) := a4
    have d5 : (w2.alloc (.cells #[] 55)).drew.cell? ⟨bx, 2, none⟩ = some (.int .i64 r3) := a5
    have hmix : Tryd.prog.follows .mixedOrders = true := by kernel_rfl
    have eg : ∀ args w, (callFunc 10 args).run Tryd.prog w = .ok (.enter 10 args) w := enters_of Tryd.func10 (by kernel_rfl) rfl
    have HL1 : Hid (L.length * 40 + 40 ≤ 140737488355328) := Lib.hid (by have := HN.out; omega)
    clear CN7 CR CNN HMR H7 HNI HMS HRF HGL HOK HZ HNP KB2 KD HBX
    cases gr with
    | true =>
      first | go_region_law (first
        | (refine step_append_rules rfl (.tmp 26) (.tmp 27) w2.heap.size 0 [] L (by first | exact own_litR _ _ SD | exact (lay8_1 _ _ SD (r1, r2, r3)).1 | exact (lay8_2 _ _ SD (r1, r2, r3)).1) (by first | exact X1.out.below (blw_1 _ _) | exact X1.out.below (blw_2 _ _ _)) rfl rfl (by go_simp) (by go_simp) (by simp <;> omega) (by have := HL1.out; omega) ?_; intro v28 w28 h28 k28 j28; have K28 : Hid (Rp8 w2 w2.drew L v28 w28) := Lib.hid (by first | exact Rp8.next (t := []) rfl rfl SD (blw_1 _ _) (fun b hb => by simp [Value.ownBlock] at hb; show w2.heap.size ≤ b; omega) h28 k28 j28 | exact Rp8.next (t := []) rfl rfl SD (blw_2 _ _ _) (fun b hb => by simp [Value.ownBlock] at hb; show w2.heap.size ≤ b; omega) h28 k28 j28); obtain ⟨k3, k4, k5⟩ := CE.out w28 K28.out.bel; (first | have L28 := Lib.hid ((lay8_1 w2.drew _ SD (r1, r2, r3)).2.aside k28 (by simp [Value.ownBlock])) | have L28 := Lib.hid ((lay8_2 w2.drew _ SD (r1, r2, r3)).2.aside k28 (by simp [Value.ownBlock])) | skip); clear h28 k28 j28)
        | (refine step_append_rules rfl (.tmp 28) (.tmp 30) w2.heap.size L.length (gCells blkCell L) [(r1, r2, r3)] (by first | exact K28.out.own | exact K28.out.own.alloc _) (by first | exact rule_litR _ (r1, r2, r3) | exact L28.out) rfl rfl (by go_simp) (by go_simp) (by first | exact Nat.le_trans SD K28.out.bel.size | exact Nat.le_trans (Nat.le_trans SD K28.out.bel.size) (blw_1 _ _).size) (by have := HL1.out; show (L.length + 1) * 40 ≤ 140737488355328; omega) ?_; intro v31 w31 h31 k31 j31; have K31 : Hid (Rp8 w2 w2.drew (L ++ [(r1, r2, r3)]) v31 w31) := Lib.hid (by first | exact Rp8.next rfl rfl SD K28.out.bel K28.out.at_ h31 k31 j31 | exact Rp8.next rfl rfl SD (K28.out.bel.trans ((blw_1 _ _).mono K28.out.bel.size)) K28.out.at_ h31 k31 j31); clear h31 k31 j31)
        | (refine step_call2 rfl 10 (.tmp 31) (.const (.string ⟨#[]⟩)) 22 9 rfl eg (by go_simp) (by go_simp) (CG.out _ w31 (GRuns.of_own rl_ln rfl K31.out.own)) ?_; rintro e w9 ⟨rfl, b9⟩; refine ⟨_, rfl, ?_⟩; have B9 := Lib.hid (K31.out.bel.trans (b9.mono K31.out.bel.size)); clear b9)) | fail "none"
      all_goals (go_wp2_with fail; go_meet; exact ⟨rfl, Lib.hid (((Below.refl w2.heap.size w2).drew).trans B9.out)⟩)
    | false =>
      first | go_region_law (first
        | (refine step_append_rules rfl (.tmp 26) (.tmp 27) w2.heap.size 0 [] L (by first | exact own_litR _ _ SD | exact (lay8_1 _ _ SD (r1, r2, r3)).1 | exact (lay8_2 _ _ SD (r1, r2, r3)).1) (by first | exact X1.out.below (blw_1 _ _) | exact X1.out.below (blw_2 _ _ _)) rfl rfl (by go_simp) (by go_simp) (by simp <;> omega) (by have := HL1.out; omega) ?_; intro v28 w28 h28 k28 j28; have K28 : Hid (Rp8 w2 w2.drew L v28 w28) := Lib.hid (by first | exact Rp8.next (t := []) rfl rfl SD (blw_1 _ _) (fun b hb => by simp [Value.ownBlock] at hb; show w2.heap.size ≤ b; omega) h28 k28 j28 | exact Rp8.next (t := []) rfl rfl SD (blw_2 _ _ _) (fun b hb => by simp [Value.ownBlock] at hb; show w2.heap.size ≤ b; omega) h28 k28 j28); obtain ⟨k3, k4, k5⟩ := CE.out w28 K28.out.bel; (first | have L28 := Lib.hid ((lay8_1 w2.drew _ SD (r1, r2, r3)).2.aside k28 (by simp [Value.ownBlock])) | have L28 := Lib.hid ((lay8_2 w2.drew _ SD (r1, r2, r3)).2.aside k28 (by simp [Value.ownBlock])) | skip); clear h28 k28 j28)
        | (refine step_append_rules rfl (.tmp 28) (.tmp 30) w2.heap.size L.length (gCells blkCell L) [(r1, r2, r3)] (by first | exact K28.out.own | exact K28.out.own.alloc _) (by first | exact rule_litR _ (r1, r2, r3) | exact L28.out) rfl rfl (by go_simp) (by go_simp) (by first | exact Nat.le_trans SD K28.out.bel.size | exact Nat.le_trans (Nat.le_trans SD K28.out.bel.size) (blw_1 _ _).size) (by have := HL1.out; show (L.length + 1) * 40 ≤ 140737488355328; omega) ?_; intro v31 w31 h31 k31 j31; have K31 : Hid (Rp8 w2 w2.drew (L ++ [(r1, r2, r3)]) v31 w31) := Lib.hid (by first | exact Rp8.next rfl rfl SD K28.out.bel K28.out.at_ h31 k31 j31 | exact Rp8.next rfl rfl SD (K28.out.bel.trans ((blw_1 _ _).mono K28.out.bel.size)) K28.out.at_ h31 k31 j31); clear h31 k31 j31)
        | (refine step_call2 rfl 10 (.tmp 31) (.const (.string ⟨#[]⟩)) 22 9 rfl eg (by go_simp) (by go_simp) (CG.out _ w31 (GRuns.of_own rl_ln rfl K31.out.own)) ?_; rintro e w9 ⟨rfl, b9⟩; refine ⟨_, rfl, ?_⟩; have B9 := Lib.hid (K31.out.bel.trans (b9.mono K31.out.bel.size)); clear b9)) | fail "none"
      all_goals (go_wp2_with fail; go_meet; exact ⟨rfl, Lib.hid (((Below.refl w2.heap.size w2).drew).trans B9.out)⟩)
  case rest =>
    obtain ⟨rfl, B23⟩ := hcut
    have B3 := Lib.hid (B2.out.trans (B23.out.mono B2.out.size))
    have KB3 := Lib.hid (KB2.out.step B23.out)
    clear KB2 CG
    cases gr with
    | true =>
      simp only [Bool.true_or]
      go_wp2
      go_ret
      exact ⟨rfl, B3.out⟩
    | false =>
    by_cases h0 : er = 0
    rotate_left
    · have hne : (er != 0) = true := by simpa using h0
      simp only [Bool.false_or, hne]
      go_wp2
      go_ret
      exact ⟨rfl, B3.out⟩
    subst h0
    obtain ⟨p, rfl, hM⟩ : ∃ p, mv = .pointer (some ⟨p, 0, none⟩) ∧ MachOk wc p L := by
      rcases HNP.out with ⟨h, _⟩ | ⟨_, p, e, _, hM⟩
      · exact absurd rfl h
      · exact ⟨p, e, hM.below B23.out⟩
    have hR := HMR.out (by first | rfl | trivial)
    have hrf := HRF.out (by first | rfl | trivial)
    have h7 := H7.out (by first | rfl | trivial)
    have hn200 := HGL.out (by first | rfl | trivial)
    have cn7 := CN7.out
    simp only [h7] at cn7
    have C7 := Lib.hid cn7
    have HM := Lib.hid hM; have HRM := Lib.hid hR; have HRR := Lib.hid hrf; have H77 := Lib.hid h7
    have KO3 := Lib.hid (HOK.out.below B3.out)
    have HU3 := Lib.hid (HU.out.below B3.out)
    clear hM hR hrf h7 cn7 CN7 HMR HRF H7 HGL HNP B23
    have hbd : Below wc.heap.size wc (wc.alloc (.cells #[] 55)) := (Below.refl _ _).alloc (Nat.le_refl _) _
    obtain ⟨v7, w7, hrun7, hown7, hg7, hat7⟩ := append_many (P := Tryd.prog) rl_ln rl_one info_rule rfl (by decide) (by decide) Tryd.underlying22 _ wc.heap.size _ 0 [] (own_litR wc _ (Nat.le_refl _)) _ L (HU3.out.below hbd) (by simp) (by rw [HN.out]; omega)
    have hb7 : Below wc.heap.size wc w7 := hbd.grown hg7 (by simp) (fun k hk => by simp [Value.ownBlock] at hk; omega)
    rw [HN.out, Nat.zero_add, List.nil_append] at hown7
    obtain ⟨A7, cc, e7⟩ := (GRuns.of_own rl_ln HN.out hown7).slice
    rw [HN.out] at e7
    subst e7
    have HVS : Hid (0 < n → ∃ g, A7 = some ⟨g, 0, none⟩ ∧ wc.heap.size ≤ g) := Lib.hid (fun h => by
      rcases hown7.2 with ⟨e, _⟩ | ⟨g', cap, cur, e, hb, _⟩
      · obtain ⟨_, e2, _⟩ := Value.slice.inj e
        omega
      · obtain ⟨e1, _, _⟩ := Value.slice.inj e
        exact ⟨g', e1, hb⟩)
    have HR7 := Lib.hid hrun7; have HO7 := Lib.hid hown7; have HB7 := Lib.hid hb7
    clear hrun7 hown7 hg7 hat7 hb7 hbd
    have CD := Lib.hid (fun (s : ByteArray) (W : World) (hO : Okw W) (hs : s.size ≤ 2000000) => decode_runs s W (by omega) hO.1 hO.2)
    go_wp2_with (at_builtin; refine wpList_append_run (.tmp 37) (.tmp 38) 22 _ _ _ _ HR7.out rfl rfl rfl rfl ?_)
    go_loopw [7, 42] (fun s7 s42 wr => ∃ k : Nat, k ≤ n ∧ s42 = .int .i64 (k : Int) ∧ s7 = .int .i64 ((1 + sum8 L k : Nat) : Int) ∧ Hid (wr.ownsRow wc.heap.size 55 3 (.slice A7 n cc) n (gCells blkCell (mid7 L k))) ∧ Hid (Below wc.heap.size wc wr)) (fun _ s42 _ => n - (RowKit.intOf s42).toNat)
    case atStart => exact ⟨0, Nat.zero_le _, rfl, rfl, HO7, HB7⟩
    case round =>
      obtain ⟨k, hk, rfl, rfl, HO, BW⟩ := hrel
      by_cases hk1 : k < n
      · have k1 : (k : Int) < (n : Int) := by omega
        obtain ⟨⟨p1, p2, p3⟩, hp⟩ : ∃ p, L[k]? = some p := ⟨_, List.getElem?_eq_getElem (by rw [HN.out]; exact hk1)⟩
        obtain ⟨b, o, rfl, _, hc⟩ := (HU3.out.below BW.out).cells HN.out (by omega)
        obtain ⟨g0, g1, g2⟩ := blk_cells hc hp
        simp only at g0 g1 g2
        obtain ⟨g, rfl, hg⟩ := HVS.out (by omega)
        have hz1 := HZ.out _ (List.mem_of_getElem? hp)
        obtain ⟨q1, q2, q3⟩ := HRR.out _ (List.mem_of_getElem? hp)
        simp only at hz1 q1 q2 q3
        have hnx := sum8_step hp
        simp only at hnx
        have hle := sum8_le (fun b hb => (HRR.out b hb).2.2) k
        have hal : Below wr.heap.size wr (wr.alloc (.cells #[.string p1, .string p2, .int .i64 p3] 55)) := (Below.refl _ _).alloc (Nat.le_refl _) _
        obtain ⟨wb, hwb⟩ : ∃ z, wr.alloc (.cells #[.string p1, .string p2, .int .i64 p3] 55) = z := ⟨_, rfl⟩
        rw [hwb] at hal
        have cd := CD.out p1 wb (KO3.out.below (BW.out.trans (hal.mono BW.out.size))) hz1.1
        rw [q1, q2] at cd
        obtain ⟨q, hq⟩ : ∃ z, (items p1.data.toList).length = z := ⟨_, rfl⟩
        obtain ⟨t, ht⟩ : ∃ z, sum8 L k = z := ⟨_, rfl⟩
        rw [hq] at cd hnx q3
        rw [ht] at hnx hle ⊢
        have CDD := Lib.hid cd; have HNX := Lib.hid hnx; have HP := Lib.hid hp; have HWB := Lib.hid hwb; have HAL := Lib.hid hal
        clear hc hp hz1 q1 q2 hnx hal hwb cd hq ht
        go_wp2_with fail
        rw [HWB.out]
        refine CDD.out.mono ?_
        rintro e w5 ⟨A5, c5, rfl, _, b5⟩
        have B5 := Lib.hid (HAL.out.trans (b5.mono HAL.out.size))
        have O5 := Lib.hid (own_below HO.out B5.out)
        have BW5 := Lib.hid (BW.out.trans (B5.out.mono BW.out.size))
        have z2 : w5.cell? ⟨g, k * 3 + 2, none⟩ = some (.int .i64 p3) := own_cell8 O5.out (k * 3 + 2) (by omega) _ (by
          rw [gCells_at (k := 3) (fun _ => rfl) (mid7 L k) k 2 _ (mid7_at HP.out) (by decide)]; rfl)
        have z3 := own_thaw O5.out (k * 3 + 2)
        have hend : Hid ((w5.setCell ⟨g, k * 3 + 2, none⟩ (.int .i64 7)).ownsRow wc.heap.size 55 3 (.slice (some ⟨g, 0, none⟩) n cc) n (gCells blkCell (mid7 L (k + 1))) ∧ Below wc.heap.size wc (w5.setCell ⟨g, k * 3 + 2, none⟩ (.int .i64 7))) := Lib.hid ⟨by
          have h1 := own_store O5.out (k * 3 + 2) (by omega) (.int .i64 7)
          rw [gCells_setN (mid7 L k) k (p1, p2, p3) 7 (mid7_at HP.out)] at h1
          rw [← mid7_step HP.out]
          exact h1, BW5.out.setCell hg _⟩
        clear b5 CDD
        go_wp2
        exact ⟨⟨k + 1, by omega, by go_num, congrArg (Value.int .i64) (by rw [HNX.out]; omega), Lib.hid hend.out.1, Lib.hid hend.out.2⟩, by simp [RowKit.intOf]; omega⟩
      · obtain rfl : k = n := by omega
        have hsum := sum8_all L
        have hmid := mid7_all L
        rw [HN.out] at hsum hmid
        rw [hmid] at HO
        have hst := states_le (frs L)
        rw [← hsum] at hst
        have hpos := states_pos (frs L)
        have hsb := sum8_le (fun b hb => (HRR.out b hb).2.2) k
        have B4 := Lib.hid (B3.out.trans (BW.out.mono B3.out.size))
        have K4 := Lib.hid (KO3.out.below BW.out)
        have KB4 := Lib.hid (KB3.out.step BW.out)
        have HM4 := Lib.hid (HM.out.below BW.out)
        have c7' := C7.out _ wr K4.out (GRuns.of_own rl_ln (by rw [List.length_map]; exact HN.out) HO.out)
        have C77 := Lib.hid c7'
        obtain ⟨tot, htot⟩ : ∃ z, sum8 L k = z := ⟨_, rfl⟩
        rw [htot] at hst hsb ⊢
        clear hsum hmid HO c7' C7 CD HB7 HO7 HR7 htot
        go_wp2_with fail
        refine C77.out.mono ?_
        rintro e w8 ⟨mv7, rfl, hN7, b8⟩
        obtain ⟨p7, rfl, hM7⟩ : ∃ p, mv7 = .pointer (some ⟨p, 0, none⟩) ∧ MachOk w8 p (L.map c7) := by
          rcases hN7 with ⟨h, _⟩ | ⟨_, p, e, _, hM⟩
          · exact absurd rfl h
          · exact ⟨p, e, hM⟩
        have B8 := Lib.hid (B4.out.trans (b8.mono B4.out.size))
        have K8 := Lib.hid (K4.out.below b8)
        have KB8 := Lib.hid (KB4.out.step b8)
        have HM8 := Lib.hid (HM4.out.below b8)
        have cs7 := states_any p7 (L.map c7) w8 hM7
        rw [c7_frs] at cs7
        have cs := states_any p L w8 HM8.out
        obtain ⟨S, hS⟩ : ∃ z, statesP (frs L) = z := ⟨_, rfl⟩
        rw [hS] at cs cs7 hst hpos
        have CS7 := Lib.hid cs7; have CS := Lib.hid cs; have HS8 := Lib.hid hS
        have hSb : S ≤ 1000 := by omega
        have e1 : ((S : Int) != (S : Int)) = false := by simp
        have e2 : decide (((1 + tot : Nat) : Int) < (S : Int)) = false := by simp; omega
        have e2' : decide (1 + tot < S) = false := by simp; omega
        have e2n : ¬ ((1 + tot : Nat) : Int) < (S : Int) := by omega
        have e3 : decide ((S : Int) < 1) = false := by simp; omega
        have e3n : ¬ (S : Int) < 1 := by omega
        clear cs7 cs hS hN7 b8 hM7 C77 K4 B4 KB4 HM4 hst
        go_wp2_with fail
        refine CS7.out.mono ?_
        rintro e w' ⟨rfl, e8⟩
        obtain rfl := e8.symm
        go_wp2_with fail
        refine CS.out.mono ?_
        rintro e w' ⟨rfl, e8⟩
        obtain rfl := e8.symm
        go_wp2_with fail
        refine CS.out.mono ?_
        rintro e w' ⟨rfl, e8⟩
        obtain rfl := e8.symm
        go_wp2_with fail
        refine CS.out.mono ?_
        rintro e w' ⟨rfl, e8⟩
        obtain rfl := e8.symm
        go_upto_region 18 with fail
        go_cut [15, 16] from 87 to 96 (fun s15 s16 wd => s16 = .int .i64 (norE (L ++ [(r1, r2, r3)])) ∧ Hid (BRuns wd s15 (norS (L ++ [(r1, r2, r3)]))) ∧ Hid (Below w8.heap.size w8 wd))
        case first =>
          have X1 := Lib.hid ((HU.out.below B8.out).below ((Below.refl w8.heap.size w8).drew))
          have SD : w8.heap.size ≤ w8.drew.heap.size := Nat.le_refl _
          have KD := Lib.hid (KB8.out.step ((Below.refl w8.heap.size w8).drew))
          have CE : Hid (∀ W, Below w8.drew.heap.size w8.drew W → W.cell? ⟨bx, 0, none⟩ = some (.string r1) ∧ W.cell? ⟨bx, 1, none⟩ = some (.string r2) ∧ W.cell? ⟨bx, 2, none⟩ = some (.int .i64 r3)) := Lib.hid (fun W hb => by
            have k := KD.out.step hb
            exact ⟨k.b0, k.b1, k.b2⟩)
          obtain ⟨x3, x4, x5⟩ := CE.out w8.drew (Below.refl _ _)
          obtain ⟨a3, a4, a5⟩ := CE.out _ (blw_1 w8.drew (.cells #[] 55))
          have y3 : w8.cell? ⟨bx, 0, none⟩ = some (.string r1) := x3
          have y4 : w8.cell? ⟨bx, 1, none⟩ = some (.string r2) := x4
          have y5 : w8.cell? ⟨bx, 2, none⟩ = some (.int .i64 r3) := x5
          have b3 : (w8.alloc (.cells #[] 55)).cell? ⟨bx, 0, none⟩ = some (.string r1) := a3
          have b4 : (w8.alloc (.cells #[] 55)).cell? ⟨bx, 1, none⟩ = some (.string r2) := a4
          have b5 : (w8.alloc (.cells #[] 55)).cell? ⟨bx, 2, none⟩ = some (.int .i64 r3) := a5
          have d3 : (w8.alloc (.cells #[] 55)).drew.cell? ⟨bx, 0, none⟩ = some (.string r1) := a3
          have d4 : (w8.alloc (.cells #[] 55)).drew.cell? ⟨bx, 1, none⟩ = some (.string r2) := a4
          have d5 : (w8.alloc (.cells #[] 55)).drew.cell? ⟨bx, 2, none⟩ = some (.int .i64 r3) := a5
          have hmix : Tryd.prog.follows .mixedOrders = true := by kernel_rfl
          have eg : ∀ args w, (callFunc 25 args).run Tryd.prog w = .ok (.enter 25 args) w := enters_of Tryd.func25 (by kernel_rfl) rfl
          have HL1 : Hid (L.length * 40 + 40 ≤ 140737488355328) := Lib.hid (by have := HN.out; omega)
          clear CNN HNI HMS HOK HZ KB8 KD HBX HM8 HS8
          first | go_region_law (first
            | (refine step_append_rules rfl (.tmp 88) (.tmp 89) w8.heap.size 0 [] L (by first | exact own_litR _ _ SD | exact (lay8_1 _ _ SD (r1, r2, r3)).1 | exact (lay8_2 _ _ SD (r1, r2, r3)).1) (by first | exact X1.out.below (blw_1 _ _) | exact X1.out.below (blw_2 _ _ _)) rfl rfl (by go_simp) (by go_simp) (by simp <;> omega) (by have := HL1.out; omega) ?_; intro v28 w88 h28 k28 j28; have K28 : Hid (Rp8 w8 w8.drew L v28 w88) := Lib.hid (by first | exact Rp8.next (t := []) rfl rfl SD (blw_1 _ _) (fun b hb => by simp [Value.ownBlock] at hb; show w8.heap.size ≤ b; omega) h28 k28 j28 | exact Rp8.next (t := []) rfl rfl SD (blw_2 _ _ _) (fun b hb => by simp [Value.ownBlock] at hb; show w8.heap.size ≤ b; omega) h28 k28 j28); obtain ⟨k3, k4, k5⟩ := CE.out w88 K28.out.bel; (first | have L28 := Lib.hid ((lay8_1 w8.drew _ SD (r1, r2, r3)).2.aside k28 (by simp [Value.ownBlock])) | have L28 := Lib.hid ((lay8_2 w8.drew _ SD (r1, r2, r3)).2.aside k28 (by simp [Value.ownBlock])) | skip); clear h28 k28 j28)
            | (refine step_append_rules rfl (.tmp 90) (.tmp 92) w8.heap.size L.length (gCells blkCell L) [(r1, r2, r3)] (by first | exact K28.out.own | exact K28.out.own.alloc _) (by first | exact rule_litR _ (r1, r2, r3) | exact L28.out) rfl rfl (by go_simp) (by go_simp) (by first | exact Nat.le_trans SD K28.out.bel.size | exact Nat.le_trans (Nat.le_trans SD K28.out.bel.size) (blw_1 _ _).size) (by have := HL1.out; show (L.length + 1) * 40 ≤ 140737488355328; omega) ?_; intro v31 w31 h31 k31 j31; have K31 : Hid (Rp8 w8 w8.drew (L ++ [(r1, r2, r3)]) v31 w31) := Lib.hid (by first | exact Rp8.next rfl rfl SD K28.out.bel K28.out.at_ h31 k31 j31 | exact Rp8.next rfl rfl SD (K28.out.bel.trans ((blw_1 _ _).mono K28.out.bel.size)) K28.out.at_ h31 k31 j31); clear h31 k31 j31)
            | (refine step_call_one rfl 25 (.tmp 93) 22 rfl eg (by go_simp) (CR.out _ w31 (K8.out.below (((Below.refl w8.heap.size w8).drew).trans K31.out.bel)) (GRuns.of_own rl_ln rfl K31.out.own)) ?_; rintro e w9 ⟨vn, rfl, rn, b9⟩; refine ⟨_, rfl, ?_⟩; have RN := Lib.hid rn; have B9 := Lib.hid (K31.out.bel.trans (b9.mono K31.out.bel.size)); clear b9 rn)) | fail "none"
          all_goals (go_wp2_with fail; go_meet; exact ⟨rfl, RN, Lib.hid (((Below.refl w8.heap.size w8).drew).trans B9.out)⟩)
        case rest =>
          obtain ⟨rfl, RN, B89⟩ := hcut
          have B9 := Lib.hid (B8.out.trans (B89.out.mono B8.out.size))
          have K9 := Lib.hid (K8.out.below B89.out)
          have HM9 := Lib.hid (HM8.out.below B89.out)
          have cnn := CNN.out _ wc K9.out RN.out
          obtain ⟨An, cn, en⟩ := RN.out.slice
          have hni := HNI.out
          have hms := HMS.out
          obtain ⟨X, hX⟩ : ∃ z, norS (L ++ [(r1, r2, r3)]) = z := ⟨_, rfl⟩
          obtain ⟨E, hE⟩ : ∃ z, norE (L ++ [(r1, r2, r3)]) = z := ⟨_, rfl⟩
          rw [hX] at cnn en
          simp only [hX, hE, HS8.out] at hni hms
          subst en
          simp only [hE]
          have CNX := Lib.hid cnn; have HNI2 := Lib.hid hni; have HMS2 := Lib.hid hms
          clear cnn hni hms hX hE RN CNN HNI HMS CR B89 HM8 K8 KB8
          by_cases hE0 : E = 0
          rotate_left
          · have hne : (E != 0) = true := by simpa using hE0
            go_wp2
            go_ret
            exact ⟨rfl, B9.out⟩
          subst hE0
          have hni := HNI2.out (by first | rfl | trivial)
          obtain ⟨m1, m2⟩ := HMS2.out (by first | rfl | trivial)
          have cnx := CNX.out
          rw [hni] at cnx
          have CNY := Lib.hid cnx
          clear CNX cnx HNI2 HMS2 hni
          go_wp2_with fail
          refine CNY.out.mono ?_
          rintro e wD ⟨mv9, rfl, hN9, bD⟩
          obtain ⟨p9, rfl, hM9⟩ : ∃ p, mv9 = .pointer (some ⟨p, 0, none⟩) ∧ MachOk wD p X := by
            rcases hN9 with ⟨h, _⟩ | ⟨_, p, e, _, hM⟩
            · exact absurd rfl h
            · exact ⟨p, e, hM⟩
          have BD := Lib.hid (B9.out.trans (bD.mono B9.out.size))
          have cs9 := states_any p9 X wD hM9
          have cs := states_any p L wD (HM9.out.below bD)
          rw [HS8.out] at cs
          obtain ⟨T, hT⟩ : ∃ z, statesP (frs X) = z := ⟨_, rfl⟩
          rw [hT] at cs9 m1 m2
          have CS9 := Lib.hid cs9; have CSM := Lib.hid cs
          have f1 : decide ((S : Int) ≤ (T : Int)) = true := by simp; omega
          have f1' : decide (S ≤ T) = true := by simp; omega
          have f2 : decide ((T : Int) ≤ (S : Int) + 3) = true := by simp; omega
          have f2' : (T : Int) ≤ (S : Int) + 3 := by omega
          have fw : IntKind.i64.wrap ((S : Int) + 3) = (S : Int) + 3 := by rw [IntKind.wrap_i64]; have := hSb; omega
          clear cs9 cs hT hN9 bD hM9 CNY HM9 B9 CS7 CS
          go_wp2_with fail
          refine CS9.out.mono ?_
          rintro e w' ⟨rfl, rfl⟩
          go_wp2_with fail
          refine CSM.out.mono ?_
          rintro e w' ⟨rfl, rfl⟩
          go_wp2_with fail
          refine CS9.out.mono ?_
          rintro e w' ⟨rfl, rfl⟩
          go_wp2_with fail
          refine CSM.out.mono ?_
          rintro e w' ⟨rfl, rfl⟩
          go_wp2
          go_ret
          exact ⟨by simp, BD.out⟩
end Go.Proofs.YtbbkkoeipkigdaaDoor
