/- Builder.WriteRune: the library's contract, laid here by hand: the table of numbers, and the kernel's comparison of each body. -/
import Derived.Shelf.Strings.BuilderRune
import Derived.Test.YthigbnklekdemaaDoorProg
namespace Go.Proofs.YthigbnklekdemaaDoor
open Go.Shelf Go.RowKit
def ren168 : Go.Shelf.Ren := ⟨fun | 168 => 38 | 240 => 44 | 242 => 45 | 276 => 49 | 278 => 50 | n => n,
  fun | 0 => 0 | 3 => 3 | 4 => 4 | 5 => 5 | 9 => 9 | 20 => 20 | 21 => 21 | 37 => 67 | 46 => 84 | 51 => 82 | 70 => 66 | 72 => 69 | 75 => 71 | 80 => 74 | 164 => 80 | n => n, fun | n => n⟩
theorem f168 : Tryd.prog.funcs[38]? = some (Body.n168 ren168) := Tryd.func38.trans (congrArg some (by kernel_rfl))
theorem f240 : Tryd.prog.funcs[44]? = some (Body.n240 ren168) := Tryd.func44.trans (congrArg some (by kernel_rfl))
theorem f242 : Tryd.prog.funcs[45]? = some (Body.n242 ren168) := Tryd.func45.trans (congrArg some (by kernel_rfl))
theorem f276 : Tryd.prog.funcs[49]? = some (Body.n276 ren168) := Tryd.func49.trans (congrArg some (by kernel_rfl))
theorem f278 : Tryd.prog.funcs[50]? = some (Body.n278 ren168) := Tryd.func50.trans (congrArg some (by kernel_rfl))
theorem lays168 : Go.Proofs.Lays.n168 Tryd.prog ren168 := {
  mixed := by kernel_rfl
  f168 := f168
  f240 := f240
  f242 := f242
  f276 := f276
  f278 := f278
  t0 := Tryd.underlying0
  a0 := Tryd.isAgg0
  z0 := Tryd.sizeOf0
  v0 := Tryd.zeroValue0
  t3 := Tryd.underlying3
  a3 := Tryd.isAgg3
  z3 := Tryd.sizeOf3
  v3 := Tryd.zeroValue3
  t4 := Tryd.underlying4
  a4 := Tryd.isAgg4
  z4 := Tryd.sizeOf4
  v4 := Tryd.zeroValue4
  t5 := Tryd.underlying5
  a5 := Tryd.isAgg5
  z5 := Tryd.sizeOf5
  v5 := Tryd.zeroValue5
  t9 := Tryd.underlying9
  a9 := Tryd.isAgg9
  z9 := Tryd.sizeOf9
  v9 := Tryd.zeroValue9
  t20 := Tryd.underlying20
  a20 := Tryd.isAgg20
  z20 := Tryd.sizeOf20
  v20 := Tryd.zeroValue20
  t21 := Tryd.underlying21
  a21 := Tryd.isAgg21
  z21 := Tryd.sizeOf21
  v21 := Tryd.zeroValue21
  t37 := Tryd.underlying67
  a37 := Tryd.isAgg67
  z37 := Tryd.sizeOf67
  v37 := Tryd.zeroValue67
  t46 := Tryd.underlying84
  a46 := Tryd.isAgg84
  z46 := Tryd.sizeOf84
  v46 := Tryd.zeroValue84
  t51 := Tryd.underlying82
  a51 := Tryd.isAgg82
  z51 := Tryd.sizeOf82
  v51 := Tryd.zeroValue82
  t70 := Tryd.underlying66
  a70 := Tryd.isAgg66
  z70 := Tryd.sizeOf66
  v70 := Tryd.zeroValue66
  t72 := Tryd.underlying69
  a72 := Tryd.isAgg69
  z72 := Tryd.sizeOf69
  v72 := Tryd.zeroValue69
  t75 := Tryd.underlying71
  a75 := Tryd.isAgg71
  z75 := Tryd.sizeOf71
  v75 := Tryd.zeroValue71
  t164 := Tryd.underlying80
  a164 := Tryd.isAgg80
  z164 := Tryd.sizeOf80
  v164 := Tryd.zeroValue80 }
theorem extra168 : Builder.Extra Tryd.prog ren168 := {
  sizeBuilder := by kernel_rfl
  liesBuilder := by kernel_rfl
  t5 := Tryd.underlying5
  a5 := Tryd.isAgg5
  z5 := Tryd.sizeOf5
  v5 := Tryd.zeroValue5
  infoByte := by kernel_rfl
  cellsByte := by kernel_rfl
  sizeByte := by kernel_rfl
  neB5 := by decide }
/-- WriteRune, of every rune: its bytes behind what the builder held. -/
theorem writeRune_k (B b : Nat) (bs : List Value) (r : Int) (h0 : -2147483648 ≤ r) (h1 : r ≤ 2147483647) (w : World) (h : Lib.IsBuilderF 69 5 B b bs w) (hl : bs.length + 4 ≤ 140737488355328) (hB : B ≤ w.heap.size) :
    Calls Tryd.prog 38 #[.pointer (some ⟨b, 0, none⟩), .int .i32 r] w fun e w' => e = .returned (.tuple #[.int .i64 (Lib.runeCells r).length, .nilIface]) ∧ Lib.IsBuilderF 69 5 B b (bs ++ Lib.runeCells r) w' ∧ Below B w w' :=
  (Any.Builder_WriteRune_k lays168 extra168 B b bs r h0 h1 w h hl hB).mono fun _ _ ⟨he, hb, hbl, _⟩ => ⟨he, .inr hb, hbl⟩
end Go.Proofs.YthigbnklekdemaaDoor
