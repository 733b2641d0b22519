/- Texts that several proofs of this seat share, one behind the other: HCheck BRows BRefRows BOf DLess. -/
import Derived.Test.YtmfmbmlfdlebfaaDoorPk8
import Derived.Test.YtmfmbmlfdlebfaaDoorPk1
import Derived.Test.YtmfmbmlfdlebfaaDoorPk3
import Derived.Test.YtmfmbmlfdlebfaaDoorPk4
import Derived.Test.YtmfmbmlfdlebfaaDoorPk7
import Derived.Test.YtmfmbmlfdlebfaaDoorPk5
import Derived.Shelf.SlSortCmp.WholeK
import Derived.Test.YtmfmbmlfdlebfaaDoorShelf2
/- block.Check, Less: whether a block may be; which of two stands ahead. -/
namespace Go.Proofs.YtmfmbmlfdlebfaaDoor
open Go.RowKit Go.Shelf

set_option maxRecDepth 100000 in
set_option maxHeartbeats 4000000 in
theorem chk_any (a b : ByteArray) (N : Int) (w : World) (hO : Okw w) (ha : a.size * 4 ≤ 140737488355328) (hb : b.size * 4 ≤ 140737488355328) :
    Calls Tryd.prog 43 #[.agg #[.string a, .string b, .int .i64 N]] w fun e w' => e = .returned (.int .i64 (chkS (a, b, N))) ∧ Below w.heap.size w w' := by
  obtain ⟨res, hres⟩ : ∃ r, chkS (a, b, N) = r := ⟨_, rfl⟩
  rw [hres]
  have hO1 : Okw (w.alloc (.cells #[.string a, .string b, .int .i64 N] 43)) := hO.below ((Below.refl _ _).alloc (Nat.le_refl _) _)
  have c1 := decode_runs a (w.alloc (.cells #[.string a, .string b, .int .i64 N] 43)) ha hO1.1 hO1.2
  have c2 := fun (w : World) (h : Okw w) => decode_runs b w hb h.1 h.2
  have HO1 := Lib.hid hO1; clear hO1 hO
  unfold chkS at hres
  simp only at hres
  have hal : Below w.heap.size w (w.alloc (.cells #[.string a, .string b, .int .i64 N] 43)) := (Below.refl _ _).alloc (Nat.le_refl _) _
  have HAL := Lib.hid hal; clear hal
  have key : ∀ (n m : Nat) (ea eb : Int), (decRunes a.data.toList).length = n → (decRunes b.data.toList).length = m → decErr a.data.toList = ea → decErr b.data.toList = eb →
      ((ea != 0) = true ∧ res = 3) ∨ ((ea != 0) = false ∧ (eb != 0) = true ∧ res = 3) ∨ ((ea != 0) = false ∧ (eb != 0) = false ∧ ((3 < n ∧ res = 5) ∨ (¬ 3 < n ∧ 3 < m ∧ res = 5) ∨ (¬ 3 < n ∧ ¬ 3 < m ∧ ((a = b ∧ res = 7) ∨ (a ≠ b ∧ ((N < 1 ∧ res = 2) ∨ (¬ N < 1 ∧ 1073741824 < N ∧ res = 2) ∨ (¬ N < 1 ∧ ¬ 1073741824 < N ∧ res = 0))))))) := by
    intro n m ea eb hn hm hea heb
    unfold decErr at hea heb
    unfold decRunes at hn hm
    cases va : Lib.validD a.data.toList with
    | false =>
      rw [va] at hea hres
      left
      exact ⟨by rw [← hea]; rfl, by rw [← hres]; rfl⟩
    | true =>
      rw [va] at hea hn hres
      have hea0 : ea = 0 := hea.symm
      cases vb : Lib.validD b.data.toList with
      | false =>
        rw [vb] at heb hres
        right; left
        exact ⟨by rw [hea0]; rfl, by rw [← heb]; rfl, by rw [← hres]; rfl⟩
      | true =>
        rw [vb] at heb hm hres
        have heb0 : eb = 0 := heb.symm
        right; right
        refine ⟨by rw [hea0]; rfl, by rw [heb0]; rfl, ?_⟩
        simp only [Bool.and_self, if_true] at hres hn hm
        rw [hn, hm] at hres
        by_cases h1 : 3 < n
        · left; exact ⟨h1, by rw [← hres, if_pos (.inl h1)]⟩
        · right
          by_cases h2 : 3 < m
          · left; exact ⟨h1, h2, by rw [← hres, if_pos (.inr h2)]⟩
          · right
            rw [if_neg (by omega)] at hres
            refine ⟨h1, h2, ?_⟩
            by_cases h3 : a = b
            · left; exact ⟨h3, by rw [← hres, if_pos h3]⟩
            · right
              rw [if_neg h3] at hres
              refine ⟨h3, ?_⟩
              by_cases h4 : N < 1
              · left; exact ⟨h4, by rw [← hres, if_pos (.inl h4)]⟩
              · right
                by_cases h5 : 1073741824 < N
                · left; exact ⟨h4, h5, by rw [← hres, if_pos (.inr h5)]⟩
                · right; exact ⟨h4, h5, by rw [← hres, if_neg (by omega)]⟩
  obtain ⟨n, hn⟩ : ∃ n, (decRunes a.data.toList).length = n := ⟨_, rfl⟩
  obtain ⟨m, hm⟩ : ∃ n, (decRunes b.data.toList).length = n := ⟨_, rfl⟩
  obtain ⟨ea, hea⟩ : ∃ n, decErr a.data.toList = n := ⟨_, rfl⟩
  obtain ⟨eb, heb⟩ : ∃ n, decErr b.data.toList = n := ⟨_, rfl⟩
  have hcs := key n m ea eb hn hm hea heb
  simp only [hn, hea] at c1
  simp only [hm, heb] at c2
  clear key hres hn hm hea heb
  have C1 := Lib.hid c1; have C2 := Lib.hid c2
  clear c1 c2
  have fin : ∀ w1 w2 : World, Below (w.alloc (.cells #[.string a, .string b, .int .i64 N] 43)).heap.size (w.alloc (.cells #[.string a, .string b, .int .i64 N] 43)) w1 → Below w1.heap.size w1 w2 →
      w1.cell? ⟨w.heap.size, 1, none⟩ = some (.string b) ∧ w2.cell? ⟨w.heap.size, 0, none⟩ = some (.string a) ∧ w2.cell? ⟨w.heap.size, 1, none⟩ = some (.string b) ∧ w2.cell? ⟨w.heap.size, 2, none⟩ = some (.int .i64 N) ∧ Below w.heap.size w w2 := fun w1 w2 h1 h2 => by
    have h12 := h1.trans (h2.mono h1.size)
    exact ⟨(h1.cell (p := ⟨w.heap.size, 1, none⟩) (by simp)).trans (by simp), (h12.cell (p := ⟨w.heap.size, 0, none⟩) (by simp)).trans (by simp), (h12.cell (p := ⟨w.heap.size, 1, none⟩) (by simp)).trans (by simp), (h12.cell (p := ⟨w.heap.size, 2, none⟩) (by simp)).trans (by simp), HAL.out.trans (h12.mono HAL.out.size)⟩
  have FIN := Lib.hid fin; clear fin
  rcases hcs with ⟨z1, rfl⟩ | ⟨z1, z2, rfl⟩ | ⟨z1, z2, ⟨h1, rfl⟩ | ⟨h1, h2, rfl⟩ | ⟨h1, h2, ⟨rfl, rfl⟩ | ⟨h3, ⟨h4, rfl⟩ | ⟨h4, h5, rfl⟩ | ⟨h4, h5, rfl⟩⟩⟩⟩
  all_goals
    try have i1 : (3 : Int) < (n : Int) := by omega
    try have i1 : ¬ (3 : Int) < (n : Int) := by omega
    try have i2 : (3 : Int) < (m : Int) := by omega
    try have i2 : ¬ (3 : Int) < (m : Int) := by omega
    try have s1 : (a.toList == b.toList) = false := beq_eq_false_iff_ne.2 (fun e => h3 (by cases a; cases b; congr 1; exact Array.toList_inj.1 (by simpa [Lib.toList_data] using e)))
    go_enter Tryd.func43, Tryd.ntmps43
    go_wp2_with fail
    refine C1.out.mono ?_
    rintro e w1 ⟨A1, c1, rfl, r1, b1⟩
    obtain ⟨p1, _, _, _, _⟩ := FIN.out w1 w1 b1 (Below.refl _ _)
    have B1 := Lib.hid b1; clear b1 r1
    go_wp2_with fail
    refine (C2.out _ (HO1.out.below B1.out)).mono ?_
    rintro e w2 ⟨A2, c2, rfl, r2, b2⟩
    obtain ⟨_, q0, q1, q2, bb⟩ := FIN.out w1 w2 B1.out b2
    have BB := Lib.hid bb
    clear b2 r2 bb p1
    go_wp2
    go_ret
    exact ⟨rfl, BB.out⟩

set_option maxRecDepth 100000 in
set_option maxHeartbeats 4000000 in
theorem less_any (a b c d : ByteArray) (N M : Int) (w : World) :
    Calls Tryd.prog 36 #[.agg #[.string a, .string b, .int .i64 N], .agg #[.string c, .string d, .int .i64 M]] w fun e w' => e = .returned (.bool (lessB (a, b, N) (c, d, M))) ∧ Below w.heap.size w w' := by
  obtain ⟨res, hres⟩ : ∃ r, lessB (a, b, N) (c, d, M) = r := ⟨_, rfl⟩
  rw [hres]
  unfold lessB at hres
  simp only at hres
  have HR := Lib.hid hres; clear hres
  have hal : Hid (Below w.heap.size w ((w.alloc (.cells #[.string a, .string b, .int .i64 N] 43)).alloc (.cells #[.string c, .string d, .int .i64 M] 43))) := Lib.hid (((Below.refl _ _).alloc (Nat.le_refl _) _).alloc (by simp) _)
  by_cases h2 : a.toList = c.toList
  · have h1 : ¬ Op.bytesLess a.toList c.toList = true := by
      rw [h2, Go.Proofs.bytesLess_eq]
      simp [List.lt_irrefl]
    have hr : Hid (res = Op.bytesLess b.toList d.toList) := Lib.hid (by rw [← HR.out, if_neg h1, if_pos h2])
    obtain rfl := toList_ext h2
    clear h1 h2
    go_enter Tryd.func36, Tryd.ntmps36
    go_wp2
    go_ret
    exact ⟨ret_bool (by rw [hr.out]), hal.out⟩
  · have hr : Hid (res = Op.bytesLess a.toList c.toList) := Lib.hid (by
      rw [← HR.out, if_neg h2]
      cases Op.bytesLess a.toList c.toList <;> rfl)
    have h2' : (a.toList == c.toList) = false := beq_eq_false_iff_ne.2 h2
    go_enter Tryd.func36, Tryd.ntmps36
    go_wp2
    go_ret
    exact ⟨ret_bool (by rw [hr.out]), hal.out⟩
end Go.Proofs.YtmfmbmlfdlebfaaDoor

/- The rows of steps that aren't matches, as errataref05.rows gathers them: rows of the call's own in a row of its own. -/
namespace Go.Proofs.YtmfmbmlfdlebfaaDoor
open Go.RowKit Go.Shelf

theorem infoSS : (Tryd.prog.info? 60).map (fun i => (i.zero, i.size, i.bytes)) = some (some (.slice none 0 0), 1, 24) := by kernel_rfl

/-- A row of the call's own whose elements are rows of steps of the call's own. -/
structure RowsOwn (w : World) (base : Nat) (ov : Value) (vals : List Value) (rs : List (List St)) : Prop where
  row : w.ownsRow base 60 1 ov vals.length vals
  len : vals.length = rs.length
  each : ∀ (k : Nat) v r, vals[k]? = some v → rs[k]? = some r → w.ownsRow base 85 3 v r.length (stCells r)
  apart : ∀ (j k : Nat) v v', j ≠ k → vals[j]? = some v → vals[k]? = some v' → v.ownBlock = none ∨ v.ownBlock ≠ v'.ownBlock

theorem RowsOwn.nil_ (w : World) (base : Nat) : RowsOwn w base (.slice none 0 0) [] [] := ⟨World.ownsRow_nil _ _ _ _, rfl, fun k v r h => by simp at h, fun j k v v' _ h => by simp at h⟩
theorem RowsOwn.alloc {w : World} {base : Nat} {ov : Value} {vals : List Value} {rs : List (List St)} (h : RowsOwn w base ov vals rs) (o : Obj) : RowsOwn (w.alloc o) base ov vals rs :=
  ⟨h.row.alloc o, h.len, fun k v r h1 h2 => (h.each k v r h1 h2).alloc o, h.apart⟩
theorem RowsOwn.at {w : World} {base : Nat} {ov : Value} {vals : List Value} {rs : List (List St)} (h : RowsOwn w base ov vals rs) {k : Nat} {v : Value} (hk : vals[k]? = some v) : ∃ r, rs[k]? = some r ∧ w.ownsRow base 85 3 v r.length (stCells r) := by
  have hlt : k < rs.length := by have := (List.getElem?_eq_some_iff.1 hk).1; rw [← h.len]; exact this
  exact ⟨rs[k], List.getElem?_eq_getElem hlt, h.each k v _ hk (List.getElem?_eq_getElem hlt)⟩
/-- append(out, nil). -/
theorem RowsOwn.push {w : World} {base : Nat} {ov : Value} {vals : List Value} {rs : List (List St)} (h : RowsOwn w base ov vals rs) (hbase : base ≤ w.heap.size) (hlen : vals.length ≤ 1000000) :
    ∃ ov' w', (Builtin.append_ #[99, 99] 99 #[ov, .slice (some ⟨w.heap.size, 0, none⟩) 1 1]).run Tryd.prog (w.alloc (.cells #[.slice none 0 0] 60)) = .ok ov' w' ∧ RowsOwn w' base ov' (vals ++ [.slice none 0 0]) (rs ++ [[]]) ∧ Below base w w' ∧
      (∀ b, b < w.heap.size → ov.ownBlock ≠ some b → w'.heap[b]? = w.heap[b]?) ∧ w.heap.size ≤ w'.heap.size := by
  obtain ⟨ov', w', hrun, hown, hg, hob⟩ := append_one (P := Tryd.prog) (enc := fun u : Unit => [Value.slice none 0 0]) (k := 1) (fun _ => rfl) (fun _ u hu => by simp at hu; subst hu; rfl) infoSS rfl (by decide) (by decide) Tryd.underlying99 w base ov vals.length vals h.row () hbase (by omega)
  have hg1 : w.grownBy w' ov.ownBlock := (World.grownBy_alloc _ _ _).trans hg
  refine ⟨ov', w', hrun, ⟨?_, by simp [h.len], fun k v r h1 h2 => ?_, fun j k v v' hjk h1 h2 => ?_⟩, (Below.refl base w).grown hg1 hbase (own_block h.row), fun b hb hne => hg1.block b hb (fun e => hne e.symm), hg1.size⟩
  · simpa using hown
  · rw [List.getElem?_append] at h1 h2
    rw [← h.len] at h2
    split at h1
    · rename_i hlt
      rw [if_pos hlt] at h2
      exact (h.each k v r h1 h2).kept hg1 (own_apart (h.each k v r h1 h2) h.row (by decide))
    · rename_i hlt
      rw [if_neg hlt] at h2
      have e : k - vals.length = 0 := by
        cases hq : k - vals.length with
        | zero => rfl
        | succ q => rw [hq] at h1; simp at h1
      rw [e] at h1 h2
      simp at h1 h2
      subst h1 h2
      exact World.ownsRow_nil _ _ _ _
  · rw [List.getElem?_append] at h1 h2
    split at h1
    · split at h2
      · exact h.apart j k v v' hjk h1 h2
      · have : v' = .slice none 0 0 := by
          cases hq : k - vals.length with
          | zero => rw [hq] at h2; simpa using h2.symm
          | succ q => rw [hq] at h2; simp at h2
        subst this
        cases hv : v.ownBlock with
        | none => exact .inl rfl
        | some b => exact .inr (by simp [Value.ownBlock])
    · have : v = .slice none 0 0 := by
        cases hq : j - vals.length with
        | zero => rw [hq] at h1; simpa using h1.symm
        | succ q => rw [hq] at h1; simp at h1
      subst this
      exact .inl rfl

/-- out[k] = append(out[k], s), at the last one. -/
theorem RowsOwn.grow {w : World} {base G cap : Nat} {vs : List Value} {v : Value} {qs : List (List St)} {r : List St} (h : RowsOwn w base (.slice (some ⟨G, 0, none⟩) (vs.length + 1) cap) (vs ++ [v]) (qs ++ [r])) (hq : qs.length = vs.length) (s : St) (hbase : base ≤ w.heap.size) (hlen : r.length ≤ 1000000) :
    ∃ v' w', (Builtin.append_ #[60, 60] 60 #[v, .slice (some ⟨w.heap.size, 0, none⟩) 1 1]).run Tryd.prog (w.alloc (.cells #[.int .i64 s.1, .int .i32 s.2.1, .int .i32 s.2.2] 85)) = .ok v' w' ∧ (∃ g c, v' = .slice (some ⟨g, 0, none⟩) (r.length + 1) c) ∧
      w'.cell? ⟨G, vs.length, none⟩ = some v ∧ w'.frozen? ⟨G, vs.length, none⟩ = false ∧ Below base w w' ∧ RowsOwn (w'.setCell ⟨G, vs.length, none⟩ v') base (.slice (some ⟨G, 0, none⟩) (vs.length + 1) cap) (vs ++ [v']) (qs ++ [r ++ [s]]) ∧ base ≤ G := by
  have hv : (vs ++ [v])[vs.length]? = some v := by simp
  have hr : (qs ++ [r])[vs.length]? = some r := by rw [← hq]; simp
  have ho := h.each _ _ _ hv hr
  obtain ⟨v', w', hrun, hown, hg, hob⟩ := append_one (P := Tryd.prog) (enc := stCell) (k := 3) (fun _ => rfl) st_one info_st rfl (by decide) (by decide) Tryd.underlying60 w base v r.length (stCells r) ho s hbase (by omega)
  have hg1 : w.grownBy w' v.ownBlock := (World.grownBy_alloc _ _ _).trans hg
  have hrow := h.row
  simp only [List.length_append, List.length_cons, List.length_nil, Nat.zero_add] at hrow
  have hap := own_apart hrow ho (by decide)
  have hrow' := hrow.kept hg1 hap
  have hc := own_cell' hrow' vs.length (by omega) v hv
  have hf := own_thaw hrow' vs.length
  have hGne : v'.ownBlock ≠ some G := by
    intro e
    rcases own_apart hown hrow' (by decide) with h0 | h0
    · rw [h0] at e; cases e
    · exact h0 (by rw [e]; rfl)
  have hGb : base ≤ G := own_block hrow G rfl
  refine ⟨v', w', hrun, ?_, hc, hf, (Below.refl base w).grown hg1 hbase (own_block ho), ⟨?_, by simp [hq], fun k u q h1 h2 => ?_, fun j k u u' hjk h1 h2 => ?_⟩, hGb⟩
  · exact ownsRow_succ hown
  · have := own_store hrow' vs.length (by omega) v'
    simpa using this
  · rw [List.getElem?_append] at h1 h2
    rw [hq] at h2
    split at h1
    · rename_i hlt
      rw [if_pos hlt] at h2
      have h1' : (vs ++ [v])[k]? = some u := by rw [List.getElem?_append_left hlt]; exact h1
      have h2' : (qs ++ [r])[k]? = some q := by rw [List.getElem?_append_left (by omega)]; exact h2
      have ho2 := h.each k u q h1' h2'
      have hne := h.apart k vs.length u v (by omega) h1' hv
      have hk1 := ho2.kept hg1 hne
      exact hk1.kept (grown_setCell w' G vs.length v') (by
        rcases own_apart ho2 hrow (by decide) with h0 | h0
        · exact .inl h0
        · exact .inr (by intro e; exact h0 (by rw [e]; rfl)))
    · rename_i hlt
      rw [if_neg hlt] at h2
      have e : k - vs.length = 0 := by
        cases hz : k - vs.length with
        | zero => rfl
        | succ z => rw [hz] at h1; simp at h1
      rw [e] at h1 h2
      simp at h1 h2
      subst h1 h2
      have := hown.kept (grown_setCell w' G vs.length v') (.inr hGne)
      rw [show stCells (r ++ [s]) = stCells r ++ stCell s by simp [stCells], List.length_append]
      simpa using this
  · have hnew : ∀ (i : Nat) (z : Value), i < vs.length → vs[i]? = some z → z.ownBlock = none ∨ z.ownBlock ≠ v'.ownBlock := fun i z hi hz => by
      have hz' : (vs ++ [v])[i]? = some z := by rw [List.getElem?_append_left hi]; exact hz
      have h0 := h.apart i vs.length z v (by omega) hz' hv
      rcases hob with hb | hb
      · rw [hb]; exact h0
      · cases hzb : z.ownBlock with
        | none => exact .inl rfl
        | some b =>
          right
          rw [hb]
          intro e
          obtain ⟨q, hq1, hq2⟩ := h.at hz'
          have := own_lt' hq2 b hzb
          have := Option.some.inj e
          omega
    have hlast : ∀ i z, ¬ i < vs.length → [v'][i - vs.length]? = some z → z = v' ∧ i = vs.length := fun i z hi hz => by
      cases hq : i - vs.length with
      | zero => rw [hq] at hz; exact ⟨by simpa using hz.symm, by omega⟩
      | succ q => rw [hq] at hz; simp at hz
    rw [List.getElem?_append] at h1 h2
    split at h1
    · rename_i hj
      split at h2
      · rename_i hk
        exact h.apart j k u u' hjk (by rw [List.getElem?_append_left hj]; exact h1) (by rw [List.getElem?_append_left hk]; exact h2)
      · rename_i hk
        obtain ⟨rfl, _⟩ := hlast k u' hk h2
        exact hnew j u hj h1
    · rename_i hj
      obtain ⟨rfl, e1⟩ := hlast j u hj h1
      split at h2
      · rename_i hk
        rcases hnew k u' hk h2 with h0 | h0
        · cases hu : u.ownBlock with
          | none => exact .inl rfl
          | some b => exact .inr (by rw [h0]; simp)
        · exact .inr (fun e => h0 e.symm)
      · rename_i hk
        obtain ⟨_, e2⟩ := hlast k u' hk h2
        omega

/-- The value reads as rows of steps. -/
def RRuns (w : World) (ov : Value) (rs : List (List St)) : Prop :=
  ∃ A c, ov = .slice A rs.length c ∧ (c ≤ maxLen) ∧ (0 < rs.length → ∃ b, A = some ⟨b, 0, none⟩ ∧ ∀ (k : Nat) r, rs[k]? = some r → ∃ v, w.cell? ⟨b, k, none⟩ = some v ∧ StRuns w v r)
theorem RRuns.below {w w' : World} {ov : Value} {rs : List (List St)} (h : RRuns w ov rs) (hb : Below w.heap.size w w') : RRuns w' ov rs := by
  obtain ⟨A, c, e, hm, hx⟩ := h
  refine ⟨A, c, e, hm, fun h0 => ?_⟩
  obtain ⟨b, eA, hc⟩ := hx h0
  refine ⟨b, eA, fun k r hk => ?_⟩
  obtain ⟨v, h1, h2⟩ := hc k r hk
  exact ⟨v, (hb.cell (cell_lt h1)).trans h1, h2.below hb⟩
theorem RowsOwn.runs {w : World} {base : Nat} {ov : Value} {vals : List Value} {rs : List (List St)} (h : RowsOwn w base ov vals rs) : RRuns w ov rs := by
  have hrow := h.row
  rcases hrow.2 with ⟨rfl, h0⟩ | ⟨g, cap, cur, rfl, hb, hg, h1, h2, h3, h4⟩
  · exact ⟨none, 0, by rw [← h.len, h0], by simp [maxLen], fun hp => by rw [← h.len, h0] at hp; omega⟩
  · refine ⟨_, cap, by rw [h.len], h2, fun hp => ⟨g, rfl, fun k r hk => ?_⟩⟩
    have hlt : k < vals.length := by have := (List.getElem?_eq_some_iff.1 hk).1; rw [h.len]; exact this
    refine ⟨vals[k], own_cell' hrow k (by omega) _ (List.getElem?_eq_getElem hlt), StRuns.of_own (h.each k _ r (List.getElem?_eq_getElem hlt) hk)⟩
end Go.Proofs.YtmfmbmlfdlebfaaDoor

/- errataref05.rows, walked. -/
namespace Go.Proofs.YtmfmbmlfdlebfaaDoor
open Go.RowKit Go.Shelf

theorem inRun_take (l : List St) (i : Nat) (hi : i + 1 ≤ l.length) : inRun (l.take (i + 1)) = ne0 (l.getD i (0, 0, 0)) := by
  have hlt : i < l.length := hi
  rw [List.take_succ_eq_append_getElem hlt, inRun_snoc, List.getD_eq_getElem?_getD, List.getElem?_eq_getElem hlt]
  rfl
theorem rowsP_take (l : List St) (i : Nat) (hi : i < l.length) : rowsP (l.take (i + 1)) = if (l.getD i (0, 0, 0)).1 = 0 then rowsP (l.take i) else if inRun (l.take i) = true then (rowsP (l.take i)).dropLast ++ [(rowsP (l.take i)).getLastD [] ++ [l.getD i (0, 0, 0)]] else rowsP (l.take i) ++ [[l.getD i (0, 0, 0)]] := by
  rw [List.take_succ_eq_append_getElem hi, rowsP_snoc, List.getD_eq_getElem?_getD, List.getElem?_eq_getElem hi]
  rfl
theorem rowsP_last (l : List St) (h : inRun l = true) : ∃ qs r, rowsP l = qs ++ [r] := by
  rcases List.eq_nil_or_concat (rowsP l) with h0 | ⟨qs, r, e⟩
  · exfalso
    rcases List.eq_nil_or_concat l with rfl | ⟨t, s, rfl⟩
    · simp [inRun] at h
    · rw [List.concat_eq_append] at h h0
      rw [inRun_snoc] at h
      exact rowsP_ne _ s (by simp) (ne0_true.1 h) h0
  · exact ⟨qs, r, by rw [e, List.concat_eq_append]⟩
theorem row_len (l r : List St) (h : r ∈ rowsP l) : r.length ≤ l.length := by
  obtain ⟨_, _, X, Y, e⟩ := rowsP_each l r h
  rw [e]; simp; omega

set_option maxRecDepth 100000 in
set_option maxHeartbeats 8000000 in
theorem refRows_any (u : Value) (l : List St) (w : World) (hu : StRuns w u l) (hl : l.length ≤ 1000000) :
    Calls Tryd.prog 63 #[u] w fun e w' => ∃ v, e = .returned v ∧ Hid (RRuns w' v (rowsP l)) ∧ Hid (Below w.heap.size w w') := by
  obtain ⟨A, c, rfl, hxc, ⟨hxm, _⟩, hxx⟩ := hu
  unfold maxLen at hxm
  obtain ⟨n, hn⟩ : ∃ n, l.length = n := ⟨_, rfl⟩
  rw [hn] at hxc hxx hl ⊢
  have HN := Lib.hid hn; clear hn
  have HX := Lib.hid hxx; clear hxx
  go_enter Tryd.func63, Tryd.ntmps63
  go_wp2
  go_loopg [3, 9] n (fun g s3 s9 wr => ∃ (i : Nat) (vals : List Value), s9 = .int .i64 i ∧ i ≤ n ∧ n - i ≤ g ∧ Hid (RowsOwn wr w.heap.size s3 vals (rowsP (l.take i))) ∧ Hid (Below w.heap.size w wr))
  case atStart => exact ⟨0, [], rfl, by omega, by omega, Lib.hid (by rw [List.take_zero, rowsP_nil]; exact RowsOwn.nil_ _ _), Lib.hid (Below.refl _ _)⟩
  case round =>
    obtain ⟨i, vals, rfl, hi, hg, HR, HB⟩ := hrel
    by_cases hlt : i < n
    · have hlt' : (i : Int) < (n : Int) := by omega
      obtain ⟨b, o, rfl, hb, hcell⟩ := HX.out (by omega)
      obtain ⟨e0, e1, e2⟩ := hcell i hlt
      have HRT := Lib.hid (rowsP_take l i (by rw [HN.out]; exact hlt))
      have hvl : vals.length ≤ n := by
        rw [HR.out.len]
        have := rowsP_len (l.take i)
        rw [List.length_take] at this
        omega
      obtain ⟨⟨kd, ra, rb⟩, hp⟩ : ∃ p, l.getD i (0, 0, 0) = p := ⟨_, rfl⟩
      rw [hp] at e0 e1 e2 HRT
      simp only at e0 e1 e2 HRT
      have f0 : wr.cell? ⟨b, o + i * 3, none⟩ = some (.int .i64 kd) := (HB.out.cell (show b < w.heap.size from hb)).trans e0
      have f1 : wr.cell? ⟨b, o + i * 3 + 1, none⟩ = some (.int .i32 ra) := (HB.out.cell (show b < w.heap.size from hb)).trans e1
      have f2 : wr.cell? ⟨b, o + i * 3 + 2, none⟩ = some (.int .i32 rb) := (HB.out.cell (show b < w.heap.size from hb)).trans e2
      clear e0 e1 e2 hp
      have hzb := HB.out.size
      by_cases hk0 : kd = 0
      · have HRN : Hid (rowsP (l.take (i + 1)) = rowsP (l.take i)) := Lib.hid (by rw [HRT.out, if_pos hk0])
        subst hk0
        clear hcell HRT
        go_wp2
        go_roundg (n - (i + 1))
        case measure => omega
        case rel => exact ⟨i + 1, vals, rfl, by omega, by omega, Lib.hid (by rw [HRN.out]; exact HR.out.alloc _), Lib.hid (HB.out.alloc HB.out.size _)⟩
      · have kb : (kd == 0) = false := beq_eq_false_iff_ne.2 hk0
        obtain ⟨wb, hwb⟩ : ∃ wb, wb = wr.alloc (.cells #[.int .i64 kd, .int .i32 ra, .int .i32 rb] 85) := ⟨_, rfl⟩
        have hzw : wb.heap.size = wr.heap.size + 1 := by rw [hwb]; simp
        have hbb : Below wr.heap.size wr wb := by rw [hwb]; exact (Below.refl _ _).alloc (Nat.le_refl _) _
        have hbox : wb.heap[wr.heap.size]? = some (.cells #[.int .i64 kd, .int .i32 ra, .int .i32 rb] 85) := by rw [hwb]; exact heap_alloc_new wr _
        have RB : Hid (RowsOwn wb w.heap.size u3 vals (rowsP (l.take i))) := Lib.hid (by rw [hwb]; exact HR.out.alloc _)
        have BB : Hid (Below w.heap.size w wb) := Lib.hid (HB.out.trans (hbb.mono HB.out.size))
        by_cases hrun : inRun (l.take i) = true
        · -- the last row goes on
          have HRN : Hid (rowsP (l.take (i + 1)) = (rowsP (l.take i)).dropLast ++ [(rowsP (l.take i)).getLastD [] ++ [(kd, ra, rb)]]) := Lib.hid (by rw [HRT.out, if_neg hk0, if_pos hrun])
          obtain ⟨qs, r, hqs⟩ := rowsP_last _ hrun
          have hi0 : 0 < i := by
            rcases Nat.eq_zero_or_pos i with h0 | h0
            · subst h0; rw [List.take_zero] at hrun; simp [inRun] at hrun
            · exact h0
          obtain ⟨i', hi'⟩ : ∃ z : Nat, (i : Int) - 1 = (z : Int) := ⟨i - 1, by omega⟩
          have ei : i = i' + 1 := by omega
          have hprev : ne0 (l.getD i' (0, 0, 0)) = true := by
            have := inRun_take l i' (by rw [HN.out]; omega)
            rw [← ei, hrun] at this
            exact this.symm
          have HEi := Lib.hid ei; clear ei
          obtain ⟨g0, _, _⟩ := hcell i' (by omega)
          obtain ⟨kp, hkp⟩ : ∃ z, (l.getD i' (0, 0, 0)).1 = z := ⟨_, rfl⟩
          have hkp0 : kp ≠ 0 := by rw [← hkp]; exact ne0_true.1 hprev
          rw [hkp] at g0
          have g1 : wr.cell? ⟨b, o + i' * 3, none⟩ = some (.int .i64 kp) := (HB.out.cell (show b < w.heap.size from hb)).trans g0
          have g2 : wb.cell? ⟨b, o + i' * 3, none⟩ = some (.int .i64 kp) := (hbb.cell (show b < wr.heap.size by omega)).trans g1
          have kpb : (kp == 0) = false := beq_eq_false_iff_ne.2 hkp0
          have ib : ((i : Int) == 0) = false := beq_eq_false_iff_ne.2 (by omega)
          clear hcell hkp hprev g0 hrun
          rw [hqs] at RB HRN
          have hRB := RB.out
          have hvl2 : vals.length = qs.length + 1 := by rw [hRB.len]; simp
          obtain ⟨vs, v, rfl⟩ : ∃ vs v, vals = vs ++ [v] := by
            rcases List.eq_nil_or_concat vals with rfl | ⟨vs, v, e⟩
            · simp at hvl2
            · exact ⟨vs, v, by rw [e, List.concat_eq_append]⟩
          have hq : qs.length = vs.length := by simp at hvl2; omega
          have hrl : r.length ≤ 1000000 := by
            have h1 := row_len (l.take i) r (by rw [hqs]; simp)
            rw [List.length_take] at h1
            omega
          have hrow := hRB.row
          simp only [List.length_append, List.length_cons, List.length_nil, Nat.zero_add] at hrow
          obtain ⟨G, cap, rfl⟩ := ownsRow_succ hrow
          have hR0 : RowsOwn wb w.heap.size (.slice (some ⟨G, 0, none⟩) (vs.length + 1) cap) (vs ++ [v]) (qs ++ [r]) := hRB
          have B0 := BB
          have x0 : wb.cell? ⟨wr.heap.size, 0, none⟩ = some (.int .i64 kd) := by rw [cell_of_row wb _ _ _ _ (0, 0) hbox]; rfl
          have x1 : wb.cell? ⟨wr.heap.size, 1, none⟩ = some (.int .i32 ra) := by rw [cell_of_row wb _ _ _ _ (0, 0) hbox]; rfl
          have x2 : wb.cell? ⟨wr.heap.size, 2, none⟩ = some (.int .i32 rb) := by rw [cell_of_row wb _ _ _ _ (0, 0) hbox]; rfl
          have hgr := RowsOwn.grow (w := wb.drew) (s := (kd, ra, rb)) ⟨hR0.row, hR0.len, hR0.each, hR0.apart⟩ hq B0.out.size hrl
          obtain ⟨v', w5, hrun5, ⟨g5, c5, rfl⟩, hc5, hf5, hb5, hR5, hG5⟩ := hgr
          have hcv : wb.cell? ⟨G, vs.length, none⟩ = some v := own_cell' hrow vs.length (by omega) v (by simp)
          obtain ⟨vA, vn, vc, rfl⟩ : ∃ A n c, v = .slice A n c := by
            obtain ⟨q, _, hq2⟩ := hR0.at (k := vs.length) (v := v) (by simp)
            obtain ⟨A, c, e, _⟩ := StRuns.of_own hq2
            exact ⟨A, _, c, e⟩
          have hGlt : G < wb.heap.size := cell_lt hcv
          have hcv2 : (wb.alloc (.cells #[.int .i64 kd, .int .i32 ra, .int .i32 rb] 85)).cell? ⟨G, vs.length, none⟩ = some (.slice vA vn vc) := (((Below.refl wb.heap.size wb).alloc (Nat.le_refl _) _).cell (p := ⟨G, vs.length, none⟩) hGlt).trans hcv
          have hrun' : (Builtin.append_ #[60, 60] 60 #[.slice vA vn vc, .slice (some ⟨wb.heap.size, 0, none⟩) 1 1]).run Tryd.prog ((wb.alloc (.cells #[.int .i64 kd, .int .i32 ra, .int .i32 rb] 85)).drew) = .ok (.slice (some ⟨g5, 0, none⟩) (r.length + 1) c5) w5 := hrun5
          have HRU := Lib.hid hrun'; clear hrun5 hrun'
          have HR5 := Lib.hid hR5; clear hR5
          have HB5 : Hid (Below w.heap.size w w5) := Lib.hid (B0.out.drew.trans hb5); clear hb5
          have HROW := Lib.hid hrow; clear hrow
          have HRX := Lib.hid hR0; clear hR0
          obtain ⟨m, hm⟩ : ∃ m, vs.length = m := ⟨_, rfl⟩
          rw [hm] at hc5 hf5 hcv hcv2 HR5
          have hmn : m ≤ n := by rw [← hm]; have := hvl; simp at this; omega
          have HMM := Lib.hid hm; clear hm
          have iM : (m : Int) < (m : Int) + 1 := by omega
          have hmix : Tryd.prog.follows .mixedOrders = true := by kernel_rfl
          have qm : IntKind.i64.wrap (m : Int) = (m : Int) := by rw [IntKind.wrap_i64]; omega
          have HHB := Lib.hid hbb; clear hbb
          have HBX := Lib.hid hbox; clear hbox
          clear hRB
          rw [hwb] at g2
          go_wp2_with fail
          rw [HMM.out] at *
          rw [← hwb]
          clear g2 hwb
          apply wp_region_at (W := w5.setCell ⟨G, m, none⟩ (.slice (some ⟨g5, 0, none⟩) (r.length + 1) c5))
          · go_region_law ((refine step_append_run' ?_ (.tmp 39) (.tmp 41) 60 _ _ _ _ ?_ HRU.out ?_ ?_ ?_; rfl; rfl; go_simp; go_simp))
            all_goals exact ⟨rfl, rfl⟩
          go_wp2
          go_roundg (n - (i + 1))
          case measure => omega
          case rel => exact ⟨i + 1, vs ++ [.slice (some ⟨g5, 0, none⟩) (r.length + 1) c5], rfl, by omega, by omega, Lib.hid (by rw [HRN.out]; simpa using HR5.out), Lib.hid (HB5.out.setCell hG5 _)⟩
        · have HRN : Hid (rowsP (l.take (i + 1)) = rowsP (l.take i) ++ [[(kd, ra, rb)]]) := Lib.hid (by rw [HRT.out, if_neg hk0, if_neg hrun])
          have htest : ((i : Int) == 0) = true ∨ (((i : Int) == 0) = false ∧ ∃ i' : Nat, (i : Int) - 1 = (i' : Int) ∧ i' < n ∧ (wr.alloc (.cells #[.int .i64 kd, .int .i32 ra, .int .i32 rb] 85)).cell? ⟨b, o + i' * 3, none⟩ = some (.int .i64 0)) := by
            rcases Nat.eq_zero_or_pos i with h0 | h0
            · left; subst h0; rfl
            · right
              refine ⟨beq_eq_false_iff_ne.2 (by omega), i - 1, by omega, by omega, ?_⟩
              have hz : (l.getD (i - 1) (0, 0, 0)).1 = 0 := by
                have h1 := inRun_take l (i - 1) (by rw [HN.out]; omega)
                rw [show i - 1 + 1 = i by omega] at h1
                have h2 : inRun (l.take i) = false := by simpa using hrun
                rw [h2] at h1
                exact ne0_false.1 h1.symm
              obtain ⟨g0, _, _⟩ := hcell (i - 1) (by omega)
              rw [hz] at g0
              rw [← hwb]
              exact (hbb.cell (show b < wr.heap.size by omega)).trans ((HB.out.cell (show b < w.heap.size from hb)).trans g0)
          obtain ⟨ov', w6, hrunP, hRP, hbP, hkP, hzP⟩ := RB.out.push BB.out.size (by omega)
          have hrow := hRP.row
          simp only [List.length_append, List.length_cons, List.length_nil, Nat.zero_add] at hrow
          obtain ⟨G, cap, rfl⟩ := ownsRow_succ hrow
          have hu3 : u3.ownBlock ≠ some wr.heap.size := fun e => Nat.lt_irrefl _ (own_lt' HR.out.row _ e)
          have hbox6 : w6.heap[wr.heap.size]? = some (.cells #[.int .i64 kd, .int .i32 ra, .int .i32 rb] 85) := (hkP wr.heap.size (by omega) hu3).trans hbox
          have x0 : w6.cell? ⟨wr.heap.size, 0, none⟩ = some (.int .i64 kd) := by rw [cell_of_row w6 _ _ _ _ (0, 0) hbox6]; rfl
          have x1 : w6.cell? ⟨wr.heap.size, 1, none⟩ = some (.int .i32 ra) := by rw [cell_of_row w6 _ _ _ _ (0, 0) hbox6]; rfl
          have x2 : w6.cell? ⟨wr.heap.size, 2, none⟩ = some (.int .i32 rb) := by rw [cell_of_row w6 _ _ _ _ (0, 0) hbox6]; rfl
          have B0 : Hid (Below w.heap.size w w6) := Lib.hid (BB.out.trans hbP)
          obtain ⟨vs, hvs⟩ : ∃ vs, vals = vs := ⟨_, rfl⟩
          subst hvs
          obtain ⟨qs, hqs⟩ : ∃ qs, rowsP (l.take i) = qs := ⟨_, rfl⟩
          rw [hqs] at hRP HRN RB
          obtain ⟨r, hr⟩ : ∃ r : List St, ([] : List St) = r := ⟨_, rfl⟩
          rw [hr] at hRP
          have hrl : r.length ≤ 1000000 := by rw [← hr]; simp
          obtain ⟨v, hv⟩ : ∃ v, Value.slice none 0 0 = v := ⟨_, rfl⟩
          rw [hv] at hRP hrow
          have HVV := Lib.hid hv
          have hR0 : RowsOwn w6 w.heap.size (.slice (some ⟨G, 0, none⟩) (vals.length + 1) cap) (vals ++ [v]) (qs ++ [r]) := hRP
          have hq : qs.length = vals.length := RB.out.len.symm
          clear hv
          have hgr := RowsOwn.grow (w := w6.drew) (s := (kd, ra, rb)) ⟨hR0.row, hR0.len, hR0.each, hR0.apart⟩ hq B0.out.size hrl
          obtain ⟨v', w5, hrun5, ⟨g5, c5, rfl⟩, hc5, hf5, hb5, hR5, hG5⟩ := hgr
          have hcv : w6.cell? ⟨G, vals.length, none⟩ = some v := own_cell' hrow vals.length (by omega) v (by simp)
          obtain ⟨vA, vn, vc, rfl⟩ : ∃ A n c, v = .slice A n c := by
            obtain ⟨q, _, hq2⟩ := hR0.at (k := vals.length) (v := v) (by simp)
            obtain ⟨A, c, e, _⟩ := StRuns.of_own hq2
            exact ⟨A, _, c, e⟩
          have hGlt : G < w6.heap.size := cell_lt hcv
          have hcv2 : (w6.alloc (.cells #[.int .i64 kd, .int .i32 ra, .int .i32 rb] 85)).cell? ⟨G, vals.length, none⟩ = some (.slice vA vn vc) := (((Below.refl w6.heap.size w6).alloc (Nat.le_refl _) _).cell (p := ⟨G, vals.length, none⟩) hGlt).trans hcv
          have hrun' : (Builtin.append_ #[60, 60] 60 #[.slice vA vn vc, .slice (some ⟨w6.heap.size, 0, none⟩) 1 1]).run Tryd.prog ((w6.alloc (.cells #[.int .i64 kd, .int .i32 ra, .int .i32 rb] 85)).drew) = .ok (.slice (some ⟨g5, 0, none⟩) (r.length + 1) c5) w5 := hrun5
          have HRU := Lib.hid hrun'; clear hrun5 hrun'
          have HR5 := Lib.hid hR5; clear hR5
          have HB5 : Hid (Below w.heap.size w w5) := Lib.hid (B0.out.drew.trans hb5); clear hb5
          have HROW := Lib.hid hrow; clear hrow
          have HRX := Lib.hid hR0; clear hR0
          obtain ⟨m, hm⟩ : ∃ m, vals.length = m := ⟨_, rfl⟩
          rw [hm] at hc5 hf5 hcv hcv2 HR5
          have hmn : m ≤ n := by rw [← hm]; exact hvl
          have HMM := Lib.hid hm; clear hm
          have iM : (m : Int) < (m : Int) + 1 := by omega
          have hmix : Tryd.prog.follows .mixedOrders = true := by kernel_rfl
          have qm : IntKind.i64.wrap (m : Int) = (m : Int) := by rw [IntKind.wrap_i64]; omega
          have HRPu := Lib.hid hrunP; clear hrunP
          have HHB := Lib.hid hbb; clear hbb
          have HBX := Lib.hid hbox; clear hbox
          have HB6 := Lib.hid hbox6; clear hbox6
          have HRr := Lib.hid hr; clear hr
          have HKP := Lib.hid hkP; clear hkP
          rw [hwb] at HRPu
          have hzw2 : (wr.alloc (.cells #[.int .i64 kd, .int .i32 ra, .int .i32 rb] 85)).heap.size = wr.heap.size + 1 := by simp
          rw [hzw2] at HRPu
          clear hcell hzw2 hRP hrun
          rw [HMM.out] at *
          clear hwb
          rcases htest with ib | ⟨ib, i', hi', hi2, g2⟩
          all_goals
            try have ii : (i' : Int) < (n : Int) := by omega
            go_wp2_with (at_builtin; refine wpList_append_run (.tmp 28) (.tmp 29) 99 _ _ _ _ HRPu.out rfl rfl rfl rfl ?_)
            apply wp_region_at (W := w5.setCell ⟨G, m, none⟩ (.slice (some ⟨g5, 0, none⟩) (r.length + 1) c5))
            · go_region_law ((refine step_append_run' ?_ (.tmp 39) (.tmp 41) 60 _ _ _ _ ?_ HRU.out ?_ ?_ ?_; rfl; rfl; go_simp; go_simp))
              all_goals exact ⟨rfl, rfl⟩
            go_wp2
            go_roundg (n - (i + 1))
            case measure => omega
            case rel => exact ⟨i + 1, vals ++ [.slice (some ⟨g5, 0, none⟩) (r.length + 1) c5], rfl, by omega, by omega, Lib.hid (by rw [HRN.out]; simpa [← HRr.out] using HR5.out), Lib.hid (HB5.out.setCell hG5 _)⟩
    · obtain rfl : i = n := by omega
      have hR := HR.out.runs
      rw [List.take_of_length_le (by rw [HN.out]; exact Nat.le_refl _)] at hR
      have HRR := Lib.hid hR; clear hR
      go_wp2
      go_ret
      exact ⟨_, rfl, HRR, HB⟩
end Go.Proofs.YtmfmbmlfdlebfaaDoor

/- errataref05.Of, Long, Pair: the blocks of steps, how many are too long, the blocks of two tokens. -/
namespace Go.Proofs.YtmfmbmlfdlebfaaDoor
open Go.RowKit Go.Shelf

def selB (r : List St) : Bool := !longB r && diffB r
def selL (rs : List (List St)) : List Blk := (rs.filter selB).map blkOf
theorem selL_take (rs : List (List St)) (k : Nat) (r : List St) (hk : rs[k]? = some r) : selL (rs.take (k + 1)) = selL (rs.take k) ++ if selB r then [blkOf r] else [] := by
  unfold selL
  rw [List.take_add_one, hk, List.filter_append, List.map_append]
  congr 1
  simp only [Option.toList_some, List.filter_cons, List.filter_nil]
  split <;> simp
theorem longL_take (rs : List (List St)) (k : Nat) (r : List St) (hk : rs[k]? = some r) : ((rs.take (k + 1)).filter longB).length = ((rs.take k).filter longB).length + if longB r then 1 else 0 := by
  rw [List.take_add_one, hk, List.filter_append, List.length_append]
  congr 1
  simp only [Option.toList_some, List.filter_cons, List.filter_nil]
  split <;> simp
theorem info_blk : (Tryd.prog.info? 43).map (fun i => (i.zero, i.size, i.bytes)) = some (some (.agg #[.string ⟨#[]⟩, .string ⟨#[]⟩, .int .i64 0]), 3, 40) := by kernel_rfl
theorem blk_one (x : Blk) : ∀ u ∈ blkCell x, u.oneCell' = true := by
  intro u hu; simp [blkCell] at hu; rcases hu with rfl | rfl | rfl <;> rfl
/-- append(v, b) to a row of blocks of the call's own. -/
theorem append_blk (w : World) (base : Nat) (v : Value) (pre : List Blk) (hown : w.ownsRow base 43 3 v pre.length (gCells blkCell pre)) (x : Blk) (hbase : base ≤ w.heap.size) (hlen : pre.length ≤ 1000000) :
    ∃ v' w', (Builtin.append_ #[22, 22] 22 #[v, .slice (some ⟨w.heap.size, 0, none⟩) 1 1]).run Tryd.prog (w.alloc (.cells #[.string x.1, .string x.2.1, .int .i64 x.2.2] 43)) = .ok v' w' ∧
      w'.ownsRow base 43 3 v' (pre ++ [x]).length (gCells blkCell (pre ++ [x])) ∧ Below base w w' := by
  obtain ⟨v', w', hrun, h2, h3, _⟩ := append_one (P := Tryd.prog) (enc := blkCell) (k := 3) (fun _ => rfl) blk_one info_blk rfl (by decide) (by decide) Tryd.underlying22 w base v pre.length _ hown x hbase (by omega)
  refine ⟨v', w', hrun, ?_, (Below.refl base w).grown ((World.grownBy_alloc _ _ _).trans h3) hbase (own_block hown)⟩
  rw [gCells_snoc, List.length_append]
  simpa using h2
/-- What a good row's two sides are, as values and by how many runes. -/
theorem row_sides {r : List St} (h : r.all stGood = true) (hl : r.length ≤ 1000000) : ∃ (A B : ByteArray) (p q : Nat), (⟨(readA r).toArray⟩ : ByteArray) = A ∧ (⟨(readB r).toArray⟩ : ByteArray) = B ∧ (decRunes A.data.toList).length = p ∧ (decRunes B.data.toList).length = q ∧ A.size * 4 ≤ 140737488355328 ∧ B.size * 4 ≤ 140737488355328 ∧
    longB r = decide (3 < p ∨ 3 < q) ∧ (diffB r = true ↔ A ≠ B) ∧ blkOf r = (A, B, 1) := by
  obtain ⟨ea, eb, ia, ib, va, vb⟩ := row_texts h
  have rs := read_size r
  have hA : (decRunes (mkB (readA r)).data.toList).length = (stA r).length := by rw [mkB_data, decRunes, va]; simp [ia]
  have hB : (decRunes (mkB (readB r)).data.toList).length = (stB r).length := by rw [mkB_data, decRunes, vb]; simp [ib]
  refine ⟨mkB (readA r), mkB (readB r), (stA r).length, (stB r).length, rfl, rfl, hA, hB, by rw [Lib.size_eq, mkB_data]; omega, by rw [Lib.size_eq, mkB_data]; omega, rfl, ?_, rfl⟩
  rw [diffB, decide_eq_true_eq]
  constructor
  · exact fun h1 e => h1 ((row_differ h).1 (by rw [← mkB_data (readA r), e, mkB_data]))
  · exact fun h1 e => h1 (by rw [(row_differ h).2 e])

set_option maxRecDepth 100000 in
set_option maxHeartbeats 8000000 in
theorem refOf_ok (u : Value) (l : List St) (w : World) (hu : StRuns w u l) (hl : l.length ≤ 1000000) (hgood : l.all stGood = true) :
    Calls Tryd.prog 49 #[u] w fun e w' => ∃ v, e = .returned (.tuple #[v, .int .i64 0]) ∧ BRuns w' v (ofS l) ∧ Below w.heap.size w w' := by
  have cc := refCheck_any u l w hu
  rw [hgood] at cc
  simp only [if_true] at cc
  have hrg := rows_good hgood
  have hof : ofS l = selL (rowsP l) := by rw [ofS, if_pos hgood]; rfl
  rw [hof]
  clear hgood hof
  have hrl := fun r (h : r ∈ rowsP l) => row_len l r h
  have cr := fun (w : World) (hu : StRuns w u l) => refRows_any u l w hu hl
  have hnl := rowsP_len l
  obtain ⟨rs, hrs⟩ : ∃ rs, rowsP l = rs := ⟨_, rfl⟩
  simp only [hrs] at cr hrg hrl hnl ⊢
  obtain ⟨n, hn⟩ : ∃ n, rs.length = n := ⟨_, rfl⟩
  rw [hn] at hnl
  have HG := Lib.hid hrg; have HRL := Lib.hid hrl; have CR := Lib.hid cr; have HN := Lib.hid hn
  clear hrs hn hrg hrl cr
  have hu' := hu
  obtain ⟨Au, cu, rfl, _, _, _⟩ := hu'
  have HU := Lib.hid hu; clear hu
  have CC := Lib.hid cc; clear cc
  go_enter Tryd.func49, Tryd.ntmps49
  go_wp2_with fail
  refine CC.out.mono ?_
  rintro e w1 ⟨rfl, b1⟩
  have U1 := Lib.hid (HU.out.below b1)
  have B1 := Lib.hid b1; clear b1
  go_wp2_with fail
  refine (CR.out _ U1.out).mono ?_
  rintro e w2 ⟨rv, rfl, RR, B2⟩
  obtain ⟨Ar, cr, rfl, hcr, _⟩ := RR.out
  rw [HN.out] at RR ⊢
  unfold maxLen at hcr
  clear CC CR U1
  go_wp2
  go_loopg [5, 19] n (fun g s5 s19 wr => ∃ k : Nat, s19 = .int .i64 k ∧ k ≤ n ∧ n - k ≤ g ∧ Hid (wr.ownsRow w2.heap.size 43 3 s5 (selL (rs.take k)).length (gCells blkCell (selL (rs.take k)))) ∧ Hid (Below w2.heap.size w2 wr))
  case atStart => exact ⟨0, rfl, by omega, by omega, Lib.hid (World.ownsRow_nil _ _ _ _), Lib.hid (Below.refl _ _)⟩
  case round =>
    obtain ⟨k, rfl, hk, hg, HO, HB⟩ := hrel
    by_cases hlt : k < n
    · have hlt' : (k : Int) < (n : Int) := by omega
      obtain ⟨r, hr⟩ : ∃ r, rs[k]? = some r := ⟨_, List.getElem?_eq_getElem (by rw [HN.out]; exact hlt)⟩
      have hrm : r ∈ rs := List.mem_of_getElem? hr
      obtain ⟨b, v, rfl, hcv, hsv⟩ : ∃ b v, Ar = some ⟨b, 0, none⟩ ∧ wr.cell? ⟨b, k, none⟩ = some v ∧ StRuns wr v r := by
        obtain ⟨A', c', e, _, hx⟩ := RR.out.below HB.out
        rw [HN.out] at e hx
        obtain ⟨rfl, _, rfl⟩ := Value.slice.inj e
        obtain ⟨b, eA, hc⟩ := hx (by omega)
        obtain ⟨v, h1, h2⟩ := hc k r hr
        exact ⟨b, v, eA, h1, h2⟩
      have hrl := HRL.out r hrm
      have hrg := HG.out r hrm
      have c1 := refRead_any v r wr hsv (by omega)
      obtain ⟨A, B, p, q, hA, hB, hp, hq, sA, sB, hlong, hdiff, hblk⟩ := row_sides hrg (by omega)
      have c2 := fun w => refSize_any A w sA
      have c3 := fun w => refSize_any B w sB
      rw [hA, hB, show stErr r = 0 by rw [stErr, hrg]; rfl] at c1
      simp only [hp] at c2
      simp only [hq] at c3
      have HSE := Lib.hid (selL_take rs k r hr)
      have hsl : (selL (rs.take k)).length ≤ 1000000 := by
        unfold selL
        rw [List.length_map]
        have := List.length_filter_le selB (rs.take k)
        rw [List.length_take] at this
        omega
      obtain ⟨Av, nv, cv, rfl⟩ : ∃ A n c, v = .slice A n c := by obtain ⟨A, c, e, _⟩ := hsv; exact ⟨A, _, c, e⟩
      have C1 := Lib.hid c1; have C2 := Lib.hid c2; have C3 := Lib.hid c3
      have HLO := Lib.hid hlong; have HDI := Lib.hid hdiff; have HBK := Lib.hid hblk
      clear c1 c2 c3 hlong hdiff hblk hA hB hp hq hr hsv hrm hrg
      go_wp2_with fail
      refine C1.out.mono ?_
      rintro e w3 ⟨rfl, b3⟩
      have O3 := Lib.hid (own_below HO.out b3)
      have B3 := Lib.hid (HB.out.trans (b3.mono HB.out.size)); clear b3
      go_wp2_with fail
      refine (C2.out _).mono ?_
      rintro e w4 ⟨rfl, b4⟩
      have O4 := Lib.hid (own_below O3.out b4)
      have B4 := Lib.hid (B3.out.trans (b4.mono B3.out.size)); clear b4
      by_cases h1 : p ≤ 3
      · have i1 : (p : Int) ≤ 3 := by omega
        go_wp2_with fail
        refine (C3.out _).mono ?_
        rintro e w5 ⟨rfl, b5⟩
        have O5 := Lib.hid (own_below O4.out b5)
        have B5 := Lib.hid (B4.out.trans (b5.mono B4.out.size)); clear b5
        by_cases h2 : q ≤ 3
        · have i2 : (q : Int) ≤ 3 := by omega
          by_cases h3 : A = B
          · have hse : selB r = false := by
              unfold selB
              have : diffB r = false := by
                cases hd : diffB r with
                | false => rfl
                | true => exact absurd h3 (HDI.out.1 hd)
              rw [this, Bool.and_false]
            have HS2 : Hid (selL (rs.take (k + 1)) = selL (rs.take k)) := Lib.hid (by rw [HSE.out, hse]; simp)
            subst h3
            clear hse
            go_wp2
            go_roundg (n - (k + 1))
            case measure => omega
            case rel => exact ⟨k + 1, rfl, by omega, by omega, Lib.hid (by rw [HS2.out]; exact O5.out), B5⟩
          · have hse : selB r = true := by
              unfold selB
              rw [HLO.out, HDI.out.2 h3, Bool.and_true]
              simp; omega
            have HS2 : Hid (selL (rs.take (k + 1)) = selL (rs.take k) ++ [(A, B, 1)]) := Lib.hid (by rw [HSE.out, hse, HBK.out]; rfl)
            have s1 : (A.toList == B.toList) = false := beq_eq_false_iff_ne.2 (fun e => h3 (toList_ext e))
            obtain ⟨v', w6, hrun, hown, hb6⟩ := append_blk w5 w2.heap.size u5 (selL (rs.take k)) O5.out (A, B, 1) B5.out.size hsl
            have HRU := Lib.hid hrun; have HOW := Lib.hid hown
            have B6 := Lib.hid (B5.out.trans hb6)
            clear hrun hown hb6 hse
            go_wp2_with (at_builtin; refine wpList_append_run (.tmp 42) (.tmp 46) 22 _ _ _ _ HRU.out rfl rfl rfl rfl ?_)
            go_roundg (n - (k + 1))
            case measure => omega
            case rel => exact ⟨k + 1, rfl, by omega, by omega, Lib.hid (by rw [HS2.out]; exact HOW.out), B6⟩
        · have i2 : ¬ (q : Int) ≤ 3 := by omega
          have hse : selB r = false := by unfold selB; rw [HLO.out]; simp; intro h; omega
          have HS2 : Hid (selL (rs.take (k + 1)) = selL (rs.take k)) := Lib.hid (by rw [HSE.out, hse]; simp)
          clear hse
          go_wp2
          go_roundg (n - (k + 1))
          case measure => omega
          case rel => exact ⟨k + 1, rfl, by omega, by omega, Lib.hid (by rw [HS2.out]; exact O5.out), B5⟩
      · have i1 : ¬ (p : Int) ≤ 3 := by omega
        have hse : selB r = false := by unfold selB; rw [HLO.out]; simp; intro h; omega
        have HS2 : Hid (selL (rs.take (k + 1)) = selL (rs.take k)) := Lib.hid (by rw [HSE.out, hse]; simp)
        clear hse
        go_wp2
        go_roundg (n - (k + 1))
        case measure => omega
        case rel => exact ⟨k + 1, rfl, by omega, by omega, Lib.hid (by rw [HS2.out]; exact O4.out), B4⟩
    · obtain rfl : k = n := by omega
      have hR := GRuns.of_own (enc := blkCell) (k := 3) (fun _ => rfl) rfl HO.out
      rw [List.take_of_length_le (by rw [HN.out]; exact Nat.le_refl _)] at hR
      have HRR := Lib.hid hR; clear hR
      go_wp2
      go_ret2
      exact ⟨_, rfl, HRR.out, B1.out.trans ((B2.out.mono B1.out.size).trans (HB.out.mono (Nat.le_trans B1.out.size B2.out.size)))⟩
end Go.Proofs.YtmfmbmlfdlebfaaDoor

/- block.Less and count.order: which of two blocks stands ahead, with the world behind the call told to the block; slices.SortFunc over blocks. -/
namespace Go.Proofs.YtmfmbmlfdlebfaaDoor
open Go.RowKit Go.Shelf Go.Lib
open Go.Sort (grow alloc_eq_grow grow_grow SWO PermIn SortedIn HoldsK)

set_option maxRecDepth 100000 in
set_option maxHeartbeats 4000000 in
theorem less_lays (a b c d : ByteArray) (N M : Int) (w : World) :
    Calls Tryd.prog 36 #[.agg #[.string a, .string b, .int .i64 N], .agg #[.string c, .string d, .int .i64 M]] w fun e w' => e = .returned (.bool (lessB (a, b, N) (c, d, M))) ∧ ∃ q os, w' = grow (w.drewN q) os := by
  obtain ⟨res, hres⟩ : ∃ r, lessB (a, b, N) (c, d, M) = r := ⟨_, rfl⟩
  rw [hres]
  unfold lessB at hres
  simp only at hres
  have HR := Lib.hid hres; clear hres
  have hal : Hid (∃ q os, ((w.alloc (.cells #[.string a, .string b, .int .i64 N] 43)).alloc (.cells #[.string c, .string d, .int .i64 M] 43)) = grow (w.drewN q) os) := Lib.hid ⟨0, _, by rw [alloc_eq_grow, alloc_eq_grow, grow_grow]; rfl⟩
  by_cases h2 : a.toList = c.toList
  · have h1 : ¬ Op.bytesLess a.toList c.toList = true := by
      rw [h2, Go.Proofs.bytesLess_eq]
      simp [List.lt_irrefl]
    have hr : Hid (res = Op.bytesLess b.toList d.toList) := Lib.hid (by rw [← HR.out, if_neg h1, if_pos h2])
    obtain rfl := toList_ext h2
    clear h1 h2
    go_enter Tryd.func36, Tryd.ntmps36
    go_wp2
    go_ret
    exact ⟨ret_bool (by rw [hr.out]), hal.out⟩
  · have hr : Hid (res = Op.bytesLess a.toList c.toList) := Lib.hid (by
      rw [← HR.out, if_neg h2]
      cases Op.bytesLess a.toList c.toList <;> rfl)
    have h2' : (a.toList == c.toList) = false := beq_eq_false_iff_ne.2 h2
    go_enter Tryd.func36, Tryd.ntmps36
    go_wp2
    go_ret
    exact ⟨ret_bool (by rw [hr.out]), hal.out⟩

/-- What count.order says of two blocks. -/
def cmpB (x y : Blk) : Int := if lessB x y = true then -1 else if lessB y x = true then 1 else 0
theorem ltOf_cmpB (x y : Blk) : ltOf cmpB x y = lessB x y := by
  unfold ltOf cmpB
  cases h : lessB x y
  · cases h2 : lessB y x <;> simp
  · simp
theorem swo_cmpB : SWO (ltOf cmpB) where
  irrefl x := by rw [ltOf_cmpB]; exact less_irrefl x
  trans x y z h1 h2 := by rw [ltOf_cmpB] at *; exact less_on x y z h1 h2
  ntrans x y z h1 h2 := by
    rw [ltOf_cmpB] at *
    cases h3 : lessB x z with
    | false => rfl
    | true =>
      exfalso
      rcases less_one x y with ⟨h, _, _⟩ | ⟨_, h, _⟩ | ⟨_, _, h⟩
      · rw [h1] at h; cases h
      · have := less_on y x z h h3
        rw [h2] at this; cases this
      · rw [less_key h ⟨rfl, rfl⟩, h2] at h3; cases h3

theorem cells3_new (w : World) (a b c : Value) (t : TypeId) : (w.alloc (.cells #[a, b, c] t)).cell? ⟨w.heap.size, 0, none⟩ = some a ∧ (w.alloc (.cells #[a, b, c] t)).cell? ⟨w.heap.size, 1, none⟩ = some b ∧ (w.alloc (.cells #[a, b, c] t)).cell? ⟨w.heap.size, 2, none⟩ = some c := by
  have h := heap_alloc_new w (.cells #[a, b, c] t)
  refine ⟨?_, ?_, ?_⟩ <;> (rw [cell_of_row _ _ _ _ _ _ h]; rfl)
theorem below_grows (w : World) (q : Nat) (os : Array Obj) : Below w.heap.size w (grow (w.drewN q) os) :=
  ⟨rfl, rfl, rfl, by simp [grow, World.drewN], fun k hk => by
    show (w.heap ++ os)[k]? = _
    rw [Array.getElem?_append_left hk]⟩
theorem grow_more (w : World) (q q2 : Nat) (os o2 : Array Obj) : ∃ q' os', grow ((grow (w.drewN q) os).drewN q2) o2 = grow (w.drewN q') os' := ⟨q + q2, os ++ o2, by simp [grow, World.drewN, Nat.add_assoc, Array.append_assoc]⟩
theorem cell_kept {w w' : World} {p : Addr} {v : Value} (h : Below w.heap.size w w') (hc : w.cell? p = some v) : w'.cell? p = some v := (h.cell (World.block_lt_of_cell? w _ hc)).trans hc
theorem grow_cell {w : World} {p : Addr} {v : Value} (q : Nat) (os : Array Obj) (h : w.cell? p = some v) : (grow (w.drewN q) os).cell? p = some v := cell_kept (below_grows w q os) h

set_option maxRecDepth 100000 in
set_option maxHeartbeats 4000000 in
theorem order_lays (x y : Blk) (w : World) :
    Calls Tryd.prog 45 #[.agg (blkCell x).toArray, .agg (blkCell y).toArray] w fun e w' => e = .returned (.int .i64 (cmpB x y)) ∧ ∃ q os, w' = grow (w.drewN q) os := by
  obtain ⟨x1, x2, x3⟩ := x
  obtain ⟨y1, y2, y3⟩ := y
  show Calls Tryd.prog 45 #[.agg #[.string x1, .string x2, .int .i64 x3], .agg #[.string y1, .string y2, .int .i64 y3]] w _
  have c1 := fun w => less_lays x1 x2 y1 y2 x3 y3 w
  have c2 := fun w => less_lays y1 y2 x1 x2 y3 x3 w
  obtain ⟨r, hr⟩ : ∃ r, cmpB (x1, x2, x3) (y1, y2, y3) = r := ⟨_, rfl⟩
  rw [hr]
  unfold cmpB at hr
  obtain ⟨l1, hl1⟩ : ∃ z, lessB (x1, x2, x3) (y1, y2, y3) = z := ⟨_, rfl⟩
  obtain ⟨l2, hl2⟩ : ∃ z, lessB (y1, y2, y3) (x1, x2, x3) = z := ⟨_, rfl⟩
  rw [hl1, hl2] at hr
  simp only [hl1] at c1
  simp only [hl2] at c2
  have HR := Lib.hid hr; have C1 := Lib.hid c1; have C2 := Lib.hid c2
  clear hr c1 c2 hl1 hl2
  obtain ⟨a0, a1, a2⟩ := cells3_new w (.string x1) (.string x2) (.int .i64 x3) 43
  obtain ⟨W1, hW1⟩ : ∃ z, w.alloc (.cells #[.string x1, .string x2, .int .i64 x3] 43) = z := ⟨_, rfl⟩
  obtain ⟨b0, b1, b2⟩ := cells3_new W1 (.string y1) (.string y2) (.int .i64 y3) 43
  rw [hW1] at a0 a1 a2
  have hb1 : Below W1.heap.size W1 (W1.alloc (.cells #[.string y1, .string y2, .int .i64 y3] 43)) := (Below.refl _ _).alloc (Nat.le_refl _) _
  have a0' := cell_kept hb1 a0; have a1' := cell_kept hb1 a1; have a2' := cell_kept hb1 a2
  have hs : W1.heap.size = w.heap.size + 1 := by rw [← hW1]; simp
  obtain ⟨W2, hW2⟩ : ∃ z, W1.alloc (.cells #[.string y1, .string y2, .int .i64 y3] 43) = z := ⟨_, rfl⟩
  rw [hW2] at a0' a1' a2' b0 b1 b2
  rw [hs] at b0 b1 b2
  have hg : Hid (W2 = grow (w.drewN 0) #[.cells #[.string x1, .string x2, .int .i64 x3] 43, .cells #[.string y1, .string y2, .int .i64 y3] 43]) := Lib.hid (by rw [← hW2, ← hW1, alloc_eq_grow, alloc_eq_grow, grow_grow]; rfl)
  have HW2 : Hid ((w.alloc (.cells #[.string x1, .string x2, .int .i64 x3] 43)).alloc (.cells #[.string y1, .string y2, .int .i64 y3] 43) = W2) := Lib.hid (by rw [hW1, hW2])
  clear a0 a1 a2 hb1 hs hW1 hW2
  go_enter Tryd.func45, Tryd.ntmps45
  go_wp2_with fail
  rw [HW2.out]
  refine (C1.out _).mono ?_
  rintro e w1 ⟨rfl, q1, o1, hw1⟩
  have g1 : Hid (∃ q os, w1 = grow (w.drewN q) os) := Lib.hid (by rw [hw1, hg.out]; exact grow_more _ _ _ _ _)
  have d0 : w1.cell? ⟨w.heap.size, 0, none⟩ = some (.string x1) := by rw [hw1]; exact grow_cell _ _ a0'
  have d1 : w1.cell? ⟨w.heap.size, 1, none⟩ = some (.string x2) := by rw [hw1]; exact grow_cell _ _ a1'
  have d2 : w1.cell? ⟨w.heap.size, 2, none⟩ = some (.int .i64 x3) := by rw [hw1]; exact grow_cell _ _ a2'
  have d3 : w1.cell? ⟨w.heap.size + 1, 0, none⟩ = some (.string y1) := by rw [hw1]; exact grow_cell _ _ b0
  have d4 : w1.cell? ⟨w.heap.size + 1, 1, none⟩ = some (.string y2) := by rw [hw1]; exact grow_cell _ _ b1
  have d5 : w1.cell? ⟨w.heap.size + 1, 2, none⟩ = some (.int .i64 y3) := by rw [hw1]; exact grow_cell _ _ b2
  clear hw1 a0' a1' a2' b0 b1 b2 hg HW2
  cases l1
  · go_wp2_with fail
    refine (C2.out _).mono ?_
    rintro e w2 ⟨rfl, q2, o2, hw2⟩
    have g2 : Hid (∃ q os, w2 = grow (w.drewN q) os) := Lib.hid (by
      obtain ⟨q, os, h⟩ := g1.out
      rw [hw2, h]; exact grow_more _ _ _ _ _)
    clear hw2 d0 d1 d2 d3 d4 d5
    cases l2
    · have hr : Hid (r = 0) := Lib.hid (by rw [← HR.out]; rfl)
      go_wp2
      go_ret
      exact ⟨by rw [hr.out]; rfl, g2.out⟩
    · have hr : Hid (r = 1) := Lib.hid (by rw [← HR.out]; rfl)
      go_wp2
      go_ret
      exact ⟨by rw [hr.out]; rfl, g2.out⟩
  · have hr : Hid (r = -1) := Lib.hid (by rw [← HR.out]; rfl)
    clear d0 d1 d2 d3 d4 d5
    go_wp2
    go_ret
    exact ⟨by rw [hr.out]; rfl, g1.out⟩

theorem cmp_lays (blk off size : Nat) (w : World) : CmpLays Tryd.prog 45 #[] blkCell 3 cmpB blk off size w :=
  fun _ _ _ _ x y => order_lays x y _

instance : Inhabited Blk := ⟨(ByteArray.empty, ByteArray.empty, 0)⟩
/-- slices.SortFunc over blocks: what was there, in order. -/
theorem sort_any (blk off cap : Nat) (d : Array Blk) (w : World) (hH : HoldsK blkCell 3 w blk off d) (hblk : blk < w.heap.size) (hsz : d.size < 4611686018427387904) :
    Calls Tryd.prog 44 #[.slice (some ⟨blk, off, none⟩) d.size cap, .func (.func 45) #[] #[]] w fun e w' =>
      e = .returned (.tuple #[]) ∧ ∃ d' n os, PermIn 0 d.size d d' ∧ SortedIn (ltOf cmpB) 0 d.size d' ∧ w' = sortWorldK blkCell 3 w blk off n d' os :=
  AnyQ.slices_SortFunc Tryd.sortB 3 Tryd.isAgg43 Tryd.sizeOf43 blkCell (fun _ => rfl) blk_one cmpB swo_cmpB 45 #[] blk off cap d w (enters_of Tryd.func45 (by kernel_rfl) rfl) (cmp_lays _ _ _ _) hH hblk hsz
end Go.Proofs.YtmfmbmlfdlebfaaDoor

