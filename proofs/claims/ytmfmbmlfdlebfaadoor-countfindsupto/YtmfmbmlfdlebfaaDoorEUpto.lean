/- CountOrders at any 16-bit number; CountFinds under the second form's bound. -/
import Derived.Test.YtmfmbmlfdlebfaaDoorPk15
import Derived.Test.YtmfmbmlfdlebfaaDoorEOrd
import Derived.Test.YtmfmbmlfdlebfaaDoorEFin
namespace Go.Proofs.YtmfmbmlfdlebfaaDoor
open Go.RowKit Go.Shelf
set_option linter.unusedSimpArgs false
set_option linter.unusedVariables false

theorem countOrders_int (u : Value) (l : List Blk) (a : Int) (w : World) (h : Okw w) (hu : BRuns w u l) (hz : szM l) (ha : (Lit.int .u16 a).wf = true) :
    Calls Tryd.prog 6 #[u, .int .u16 a] w (RetTrue w) := by
  have hb : 0 ≤ a ∧ a < 65536 := by
    simp [Lit.wf, IntKind.min, IntKind.max, IntKind.signed, IntKind.bits] at ha
    omega
  obtain ⟨n, rfl⟩ : ∃ n : Nat, a = (n : Int) := ⟨a.toNat, by omega⟩
  exact countOrders_walk u l n (by omega) w h hu hz
theorem countFinds_upto {H : Type} (u : Value) (l : List Blk) (p q : ByteArray) (w : World) (h : Okw w) (hu : BRuns w u l) {d : DataW H} (hd : (d = .nil ∧ l = []) ∨ ∃ sp, d = .slice (l.map blkD) sp) (hk : Rows.uptoSmall H ([d, .lit (.string p.data.toList), .lit (.string q.data.toList)] ++ []) = true) :
    Calls Tryd.prog 8 #[u, .string p, .string q] w (RetTrue w) := by
  have h' := of_decide_eq_true hk
  simp only [List.append_nil, Rows.uptoBulkAll] at h'
  obtain ⟨h1, h2⟩ := blks_bulk hd (by omega)
  exact countFinds_walk u l p q w h hu h1 h2
end Go.Proofs.YtmfmbmlfdlebfaaDoor
