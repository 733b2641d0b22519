/- The document's examples of layer 1 stand. -/
import Derived.Test.YtnacllcajadnoaaDoorLetters
namespace Go.Proofs.YtnacllcajadnoaaDoor
open Go.RowKit Go.Shelf

/-- The world holds the two tables, as old blocks. -/
def Okw (w : World) : Prop := Tabs w ∧ 0 < w.heap.size ∧ 1 < w.heap.size
theorem Okw.below {w w' : World} (h : Okw w) (hb : Below w.heap.size w w') : Okw w' := ⟨h.1.below hb, Nat.lt_of_lt_of_le h.2.1 hb.size, Nat.lt_of_lt_of_le h.2.2 hb.size⟩

set_option maxRecDepth 100000 in
set_option maxHeartbeats 1000000 in
theorem alive_any (w : World) (h : Okw w) :
    Calls Tryd.prog 9 #[] w fun e w' => e = .returned (.bool true) ∧ Below w.heap.size w w' := by
  have c1 := decode_runs ⟨#[195, 164]⟩ w (by decide) h.1 h.2
  rw [show decRunes (ByteArray.mk #[195, 164]).data.toList = [228] by decide +kernel, show decErr (ByteArray.mk #[195, 164]).data.toList = 0 by decide +kernel] at c1
  have C1 := Lib.hid c1; clear c1
  go_enter Tryd.func9, Tryd.ntmps9
  go_wp2_with fail
  refine C1.out.mono ?_
  rintro e w1 ⟨A, c, rfl, hr1, hb1⟩
  have h1 := h.below hb1
  have c2 := decode_runs ⟨#[192, 128]⟩ w1 (by decide) h1.1 h1.2
  rw [show decRunes (ByteArray.mk #[192, 128]).data.toList = [] by decide +kernel, show decErr (ByteArray.mk #[192, 128]).data.toList = 3 by decide +kernel] at c2
  have C2 := Lib.hid c2; clear c2
  go_wp2_with fail
  refine C2.out.mono ?_
  rintro e w2 ⟨A2, c2, rfl, hr2, hb2⟩
  obtain ⟨A', c', e1, _, _, hx⟩ := hr1.below hb2
  obtain ⟨b, o, e2, _, hc⟩ := hx (by simp)
  obtain ⟨rfl, rfl⟩ : A = A' ∧ c = c' := by simpa using e1
  subst e2
  have hc0 : w2.cell? ⟨b, o, none⟩ = some (.int .i32 228) := by simpa using hc 0 (by simp)
  clear hc hx e1
  have c3 := letter_any 97 w2
  rw [show letterB 97 = true by decide] at c3
  have C3 := Lib.hid c3; clear c3
  go_wp2_with (go_at_call 19; refine C3.out.mono ?_; rintro e w' ⟨rfl, rfl⟩)
  go_ret
  exact ⟨rfl, hb1.trans (hb2.mono hb1.size)⟩
end Go.Proofs.YtnacllcajadnoaaDoor
