/- The document's example of layer 2 stands. -/
import Derived.Test.YtephhejfkihhgaaDoorTPlain2
namespace Go.Proofs.YtephhejfkihhgaaDoor
open Go.RowKit Go.Shelf

set_option maxRecDepth 100000 in
set_option maxHeartbeats 1000000 in
theorem alive2_any (w : World) (h : Okw w) :
    Calls Tryd.prog 10 #[] w fun e w' => e = .returned (.bool true) ∧ Below w.heap.size w w' := by
  have c := spans_any ⟨#[97, 98, 32, 49, 99]⟩ w h
  rw [show docSpans (ByteArray.mk #[97, 98, 32, 49, 99]).data.toList = [(0, 2, true), (2, 4, false), (4, 5, true)] by decide +kernel, show docErr (ByteArray.mk #[97, 98, 32, 49, 99]).data.toList = 0 by decide +kernel] at c
  have C := Lib.hid c; clear c
  go_enter Tryd.func10, Tryd.ntmps10
  go_wp2_with fail
  refine C.out.mono ?_
  rintro e w1 ⟨A, c, rfl, hr, hb⟩
  obtain ⟨A', c', e1, _, _, hx⟩ := hr
  obtain ⟨rfl, rfl⟩ : A = A' ∧ c = c' := by simpa using e1
  obtain ⟨b, o, rfl, _, hc⟩ := hx (by simp)
  have a0 := (hc 0 (by simp)).1
  have a1 := (hc 0 (by simp)).2.1
  have a2 := (hc 0 (by simp)).2.2
  have b1 := (hc 1 (by simp)).2.1
  have c2 := (hc 2 (by simp)).2.2
  simp at a0 a1 a2 b1 c2
  clear hc hx e1
  go_wp2
  go_ret
  exact ⟨rfl, hb⟩
end Go.Proofs.YtephhejfkihhgaaDoor
