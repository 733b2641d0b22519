/- The law RunesBack, walked: what is encoded is decoded, what is decoded is encoded as it was. -/
import Derived.Test.YthigbnklekdemaaDoorJoin
import Derived.Test.YthigbnklekdemaaDoorEncode
namespace Go.Proofs.YthigbnklekdemaaDoor
open Go.RowKit Go.Shelf

theorem mk_toList (l : List UInt8) : (ByteArray.mk l.toArray).data.toList = l := by simp
theorem mk_data (s : ByteArray) (l : List UInt8) (h : l = s.data.toList) : (⟨l.toArray⟩ : ByteArray) = s := by subst h; rfl
theorem rune_i32 {r : Int} (h : Lib.validRune r = true) : -2147483648 ≤ r ∧ r ≤ 2147483647 := by have := rune_bd h; omega

/-- Encode answers the text t and the error er at the list l. -/
def EncAt (l : List Int) (t : ByteArray) (er : Int) : Prop := ∀ w u, Runs w u l → Calls Tryd.prog 29 #[u] w fun e w' => e = .returned (.tuple #[.string t, .int .i64 er]) ∧ Below w.heap.size w w'
theorem encAt_yes (l : List Int) (hlen : l.length * 4 + 4 ≤ 140737488355328) (hv : allRunes l = true) : EncAt l ⟨(encL l).toArray⟩ 0 := fun w u hu => by
  have := encode_any u l w hu hlen (fun x hx => rune_i32 (List.all_eq_true.1 hv x hx))
  simpa [encS, encErr, hv] using this
theorem encAt_no (l : List Int) (hlen : l.length * 4 + 4 ≤ 140737488355328) (hwf : ∀ x ∈ l, -2147483648 ≤ x ∧ x ≤ 2147483647) (hv : allRunes l = false) : EncAt l ⟨#[]⟩ 3 := fun w u hu => by
  have := encode_any u l w hu hlen hwf
  simpa [encS, encErr, hv] using this

end Go.Proofs.YthigbnklekdemaaDoor
