/- Texts that several proofs of this seat share, one behind the other: ZLdL ZTurn KEdg. -/
import Derived.Test.YtnjhbblhlgpgdaaDoorPk13
import Derived.Test.YtnjhbblhlgpgdaaDoorPk10
import Derived.Test.YtnjhbblhlgpgdaaDoorPk8
/- What lies there while a state's edges are laid. -/
namespace Go.Proofs.YtnjhbblhlgpgdaaDoor
open Go.RowKit Go.Shelf
set_option linter.unusedSimpArgs false
set_option linter.unusedVariables false

theorem LdC.kept {W W' : World} {n1 q gn N b2 b6 b7 d : Nat} {O : List Nat} {vO : Value} {row : Option Nat} (h : LdC W n1 q gn N b2 b6 b7 d O vO) (hg : W.grownBy W' row) (h2 : some b2 ≠ row) (h6 : some b6 ≠ row) (h7 : some b7 ≠ row) (hn : some gn ≠ row) (ho : vO.ownBlock = none ∨ vO.ownBlock ≠ row) : LdC W' n1 q gn N b2 b6 b7 d O vO :=
  ⟨(hg.block _ h.x2.lt h2).trans h.x2, (hg.block _ h.x6.lt h6).trans h.x6, (hg.block _ h.x7.lt h7).trans h.x7, (hg.block _ (Array.getElem?_eq_some_iff.1 h.num).1 hn).trans h.num, h.ord.kept hg ho, h.l2, h.l6, h.l7, h.lg⟩
structure LdL (w W : World) (n1 q gn N b2 b6 b7 d Bb : Nat) (O : List Nat) (vO : Value) (sts : List StaL) (eds : List Edg) (Ds : List Nat) : Prop where
  mm : ∃ vs ve, LdM w W n1 d sts eds vs ve ∧ (vs.ownBlock ≠ some (Bb + 1) ∧ vs.ownBlock ≠ some Bb) ∧ (ve.ownBlock ≠ some (Bb + 1) ∧ ve.ownBlock ≠ some Bb)
  cc : LdC W n1 q gn N b2 b6 b7 d O vO
  mks : ZMarks n1 W Ds
  dl : ∀ D ∈ Ds, D < Bb
  gl : gn < Bb
  l2 : b2 < Bb
  l6 : b6 < Bb
  l7 : b7 < Bb
  ld : d < Bb
  ol : ∀ k, vO.ownBlock = some k → k < Bb
  nl : n1 ≤ Bb
  sz : Bb + 2 ≤ W.heap.size
theorem LdL.row {w W W' : World} {n1 q gn N b2 b6 b7 d Bb : Nat} {O : List Nat} {vO : Value} {sts : List StaL} {eds : List Edg} {Ds : List Nat} (h : LdL w W n1 q gn N b2 b6 b7 d Bb O vO sts eds Ds) (hg : W.grownBy W' (some (Bb + 1))) : LdL w W' n1 q gn N b2 b6 b7 d Bb O vO sts eds Ds := by
  obtain ⟨vs, ve, h1, h2, h3⟩ := h.mm
  refine ⟨⟨vs, ve, h1.kept hg (.inr h2.1) (.inr h3.1) (fun e => ?_) (fun r e => ?_), h2, h3⟩, h.cc.kept hg (fun e => ?_) (fun e => ?_) (fun e => ?_) (fun e => ?_) (.inr fun e => ?_), ⟨h.mks.nd, fun D hD => ⟨(h.mks.at_ D hD).1, (hg.block D (Array.getElem?_eq_some_iff.1 (h.mks.at_ D hD).2).1 (fun e => ?_)).trans (h.mks.at_ D hD).2⟩⟩, h.dl, h.gl, h.l2, h.l6, h.l7, h.ld, h.ol, h.nl, by have := h.sz; have := hg.size; omega⟩
  · have e2 := Option.some.inj e; have := h.ld; omega
  · have e2 := Option.some.inj e; have := h.nl; omega
  · have e2 := Option.some.inj e; have := h.l2; omega
  · have e2 := Option.some.inj e; have := h.l6; omega
  · have e2 := Option.some.inj e; have := h.l7; omega
  · have e2 := Option.some.inj e; have := h.gl; omega
  · have := h.ol _ e; omega
  · have e2 := Option.some.inj e; have := h.dl D hD; omega
theorem LdL.own {β : Type} (w : World) (n1 q gn N b2 b6 b7 d Bb B : Nat) (O : List Nat) (vO : Value) (sts : List StaL) (eds : β → List Edg) (Ds : List Nat) (hB : Bb ≤ B) : OwnFrom B (fun (b : β) W => LdL w W n1 q gn N b2 b6 b7 d Bb O vO sts (eds b) Ds) := by
  intro b W W' row h hg hr
  obtain ⟨vs, ve, h1, h2, h3⟩ := h.mm
  have lo : ∀ k, k < Bb → some k ≠ row := fun k hk e => by have := (hr k e.symm).1; omega
  refine ⟨⟨vs, ve, h1.ownFrom hg hr (by have := h.nl; omega), h2, h3⟩, h.cc.kept hg (lo _ h.l2) (lo _ h.l6) (lo _ h.l7) (lo _ h.gl) ?_, ⟨h.mks.nd, fun D hD => ⟨(h.mks.at_ D hD).1, (hg.block D (Array.getElem?_eq_some_iff.1 (h.mks.at_ D hD).2).1 (lo D (h.dl D hD))).trans (h.mks.at_ D hD).2⟩⟩, h.dl, h.gl, h.l2, h.l6, h.l7, h.ld, h.ol, h.nl, by have := h.sz; have := hg.size; omega⟩
  cases e : vO.ownBlock with
  | none => exact .inl rfl
  | some k => exact .inr (lo k (h.ol k e))
/-- An edge is laid: what a round keeps. -/
theorem LdL.step {w W W' : World} {n1 q gn N b2 b6 b7 d Bb : Nat} {O : List Nat} {vO vs v' : Value} {sts : List StaL} {eds eds2 : List Edg} {Ds : List Nat} {cs : Array Value} (h : LdL w W n1 q gn N b2 b6 b7 d Bb O vO sts eds Ds) (hd : W.heap[d]? = some (.cells cs 82)) (hm : LdM w W' n1 d sts eds2 vs v') (hf : LFr d n1 W W') (hvs : vs.ownBlock ≠ some (Bb + 1) ∧ vs.ownBlock ≠ some Bb) (hv : v'.ownBlock ≠ some (Bb + 1) ∧ v'.ownBlock ≠ some Bb) : LdL w W' n1 q gn N b2 b6 b7 d Bb O vO sts eds2 Ds :=
  ⟨⟨vs, v', hm, hvs, hv⟩, h.cc.fr hf hd, hf.marks hd h.mks, h.dl, h.gl, h.l2, h.l6, h.l7, h.ld, h.ol, h.nl, by have := h.sz; have := hf.bel.size; omega⟩
end Go.Proofs.YtnjhbblhlgpgdaaDoor

/- The edges' row is turned, whatever its form. -/
namespace Go.Proofs.YtnjhbblhlgpgdaaDoor
open Go.RowKit Go.Shelf
set_option linter.unusedSimpArgs false
set_option linter.unusedVariables false

theorem LdM.turn_any {w W W5 : World} {n1 d : Nat} {sts : List StaL} {eds eds2 : List Edg} {vs ve : Value} (h : LdM w W n1 d sts eds vs ve) (hg : W.grownBy W5 ve.ownBlock) (hw : EdOwn W5 n1 ve eds2) :
    LdM w W5 n1 d sts eds2 vs ve ∧ LFr d n1 W W5 := by
  obtain ⟨a1, a2, a3, a4, a5, a6⟩ := h.ap
  have hf : LFr d n1 W W5 := LFr.of_row (base := n1) hg a6 h.ed (.inr rfl)
  exact ⟨⟨(hg.block d a5 (fun e => a2 e.symm)).trans h.box, h.st.kept hg a3, hw, h.bel.trans hf.bel, h.d0⟩, hf⟩
end Go.Proofs.YtnjhbblhlgpgdaaDoor

/- Layer 10, plain: there are no more edges than letters of words. -/
namespace Go.Proofs.YtnjhbblhlgpgdaaDoor
set_option linter.unusedVariables false
set_option linter.unusedSimpArgs false

open Classical in
/-- Some runes that lead to a state. -/
noncomputable def toS (w x : Rst) : List Int := if h : x ∈ staQ w then (staQ_from h).choose else []
theorem toS_is {w x : Rst} (h : x ∈ staQ w) : x = behP w (toS w x) := by
  unfold toS
  rw [dif_pos h]
  exact (staQ_from h).choose_spec.2
theorem nodup_map_snoc {p : List Int} : ∀ {l : List Int}, l.Pairwise (· < ·) → (l.map (fun r => p ++ [r])).Nodup := by
  intro l
  induction l with
  | nil => intro _; exact List.nodup_nil
  | cons a l ih =>
    intro h
    rw [List.pairwise_cons] at h
    rw [List.map_cons, List.nodup_cons]
    refine ⟨fun hm => ?_, ih h.2⟩
    obtain ⟨b, hb, e⟩ := List.mem_map.1 hm
    have e2 := List.append_cancel_left e
    have e3 : b = a := by simpa using e2
    have := h.1 b hb
    omega
theorem edges_nodup {w : Rst} (hw : w.Pairwise (· < ·)) : ∀ (Q : List Rst), Q.Nodup → (∀ x ∈ Q, x ∈ staQ w) → (Q.flatMap (fun x => (hdsR x).map (fun r => toS w x ++ [r]))).Nodup := by
  intro Q
  induction Q with
  | nil => intro _ _; exact List.nodup_nil
  | cons x Q ih =>
    intro hn hq
    rw [List.nodup_cons] at hn
    rw [List.flatMap_cons, List.nodup_append]
    refine ⟨nodup_map_snoc (hdsR_rising (staQ_rising hw (hq x (by simp)))), ih hn.2 (fun y hy => hq y (by simp [hy])), fun a ha b hb e => ?_⟩
    obtain ⟨r, _, rfl⟩ := List.mem_map.1 ha
    obtain ⟨y, hy, hb⟩ := List.mem_flatMap.1 hb
    obtain ⟨r', _, rfl⟩ := List.mem_map.1 hb
    have e1 := (List.append_inj' e rfl).1
    have : x = y := by rw [toS_is (hq x (by simp)), toS_is (hq y (by simp [hy])), e1]
    exact hn.1 (this ▸ hy)
theorem edK_all {w : Rst} (hw : w.Pairwise (· < ·)) (k : Nat) : (edK (staQ w) k).length ≤ 1 + ltrs w := by
  have h1 := edges_nodup hw ((staQ w).take k) ((staQ_nodup w).sublist (List.take_sublist _ _)) (fun x hx => List.mem_of_mem_take hx)
  have h2 := nodup_leK (m := begsK w) h1 (fun a ha => by
    obtain ⟨x, hx, ha⟩ := List.mem_flatMap.1 ha
    obtain ⟨r, hr, rfl⟩ := List.mem_map.1 ha
    have hxs : x ∈ staQ w := List.mem_of_mem_take hx
    refine mem_begsK (.inr ?_)
    obtain ⟨t, ht⟩ := mem_hdsR.1 hr
    rw [toS_is hxs] at ht
    refine ⟨t, ?_⟩
    have := mem_behP.1 ht
    simpa using this)
  rw [begsK_len] at h2
  have e : ((((staQ w).take k).flatMap (fun x => (hdsR x).map (fun r => toS w x ++ [r]))).length) = (edK (staQ w) k).length := by
    unfold edK
    rw [List.length_flatMap, List.length_flatMap]
    congr 1
    refine List.map_congr_left (fun x _ => ?_)
    rw [List.length_map, edE_len]
  omega
end Go.Proofs.YtnjhbblhlgpgdaaDoor

