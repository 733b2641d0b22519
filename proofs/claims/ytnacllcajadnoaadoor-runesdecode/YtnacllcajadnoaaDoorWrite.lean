/- Builder.WriteRune: the library's contract, laid here by hand: the table of numbers, and the kernel's comparison of each body. -/
import Derived.Shelf.Strings.BuilderRune
import Derived.Test.YtnacllcajadnoaaDoorProg
namespace Go.Proofs.YtnacllcajadnoaaDoor
open Go.Shelf Go.RowKit
def ren168 : Go.Shelf.Ren := ⟨fun | 168 => 29 | 240 => 38 | 242 => 39 | 276 => 43 | 278 => 44 | n => n,
  fun | 0 => 0 | 3 => 3 | 4 => 4 | 5 => 5 | 9 => 9 | 20 => 20 | 21 => 21 | 37 => 45 | 46 => 59 | 51 => 66 | 70 => 44 | 72 => 47 | 75 => 49 | 80 => 52 | 164 => 64 | n => n, fun | n => n⟩
theorem f168 : Tryd.prog.funcs[29]? = some (Body.n168 ren168) := Tryd.func29.trans (congrArg some (by kernel_rfl))
theorem f240 : Tryd.prog.funcs[38]? = some (Body.n240 ren168) := Tryd.func38.trans (congrArg some (by kernel_rfl))
theorem f242 : Tryd.prog.funcs[39]? = some (Body.n242 ren168) := Tryd.func39.trans (congrArg some (by kernel_rfl))
theorem f276 : Tryd.prog.funcs[43]? = some (Body.n276 ren168) := Tryd.func43.trans (congrArg some (by kernel_rfl))
theorem f278 : Tryd.prog.funcs[44]? = some (Body.n278 ren168) := Tryd.func44.trans (congrArg some (by kernel_rfl))
theorem lays168 : Go.Proofs.Lays.n168 Tryd.prog ren168 := {
  mixed := by kernel_rfl
  f168 := f168
  f240 := f240
  f242 := f242
  f276 := f276
  f278 := f278
  t0 := Tryd.underlying0
  a0 := Tryd.isAgg0
  z0 := Tryd.sizeOf0
  v0 := Tryd.zeroValue0
  t3 := Tryd.underlying3
  a3 := Tryd.isAgg3
  z3 := Tryd.sizeOf3
  v3 := Tryd.zeroValue3
  t4 := Tryd.underlying4
  a4 := Tryd.isAgg4
  z4 := Tryd.sizeOf4
  v4 := Tryd.zeroValue4
  t5 := Tryd.underlying5
  a5 := Tryd.isAgg5
  z5 := Tryd.sizeOf5
  v5 := Tryd.zeroValue5
  t9 := Tryd.underlying9
  a9 := Tryd.isAgg9
  z9 := Tryd.sizeOf9
  v9 := Tryd.zeroValue9
  t20 := Tryd.underlying20
  a20 := Tryd.isAgg20
  z20 := Tryd.sizeOf20
  v20 := Tryd.zeroValue20
  t21 := Tryd.underlying21
  a21 := Tryd.isAgg21
  z21 := Tryd.sizeOf21
  v21 := Tryd.zeroValue21
  t37 := Tryd.underlying45
  a37 := Tryd.isAgg45
  z37 := Tryd.sizeOf45
  v37 := Tryd.zeroValue45
  t46 := Tryd.underlying59
  a46 := Tryd.isAgg59
  z46 := Tryd.sizeOf59
  v46 := Tryd.zeroValue59
  t51 := Tryd.underlying66
  a51 := Tryd.isAgg66
  z51 := Tryd.sizeOf66
  v51 := Tryd.zeroValue66
  t70 := Tryd.underlying44
  a70 := Tryd.isAgg44
  z70 := Tryd.sizeOf44
  v70 := Tryd.zeroValue44
  t72 := Tryd.underlying47
  a72 := Tryd.isAgg47
  z72 := Tryd.sizeOf47
  v72 := Tryd.zeroValue47
  t75 := Tryd.underlying49
  a75 := Tryd.isAgg49
  z75 := Tryd.sizeOf49
  v75 := Tryd.zeroValue49
  t164 := Tryd.underlying64
  a164 := Tryd.isAgg64
  z164 := Tryd.sizeOf64
  v164 := Tryd.zeroValue64 }
theorem extra168 : Builder.Extra Tryd.prog ren168 := {
  sizeBuilder := by kernel_rfl
  liesBuilder := by kernel_rfl
  t5 := Tryd.underlying5
  a5 := Tryd.isAgg5
  z5 := Tryd.sizeOf5
  v5 := Tryd.zeroValue5
  infoByte := by kernel_rfl
  cellsByte := by kernel_rfl
  sizeByte := by kernel_rfl
  neB5 := by decide }
/-- WriteRune, of every rune: its bytes behind what the builder held. -/
theorem writeRune_k (B b : Nat) (bs : List Value) (r : Int) (h0 : -2147483648 ≤ r) (h1 : r ≤ 2147483647) (w : World) (h : Lib.IsBuilderF 47 5 B b bs w) (hl : bs.length + 4 ≤ 140737488355328) (hB : B ≤ w.heap.size) :
    Calls Tryd.prog 29 #[.pointer (some ⟨b, 0, none⟩), .int .i32 r] w fun e w' => e = .returned (.tuple #[.int .i64 (Lib.runeCells r).length, .nilIface]) ∧ Lib.IsBuilderF 47 5 B b (bs ++ Lib.runeCells r) w' ∧ Below B w w' :=
  (Any.Builder_WriteRune_k lays168 extra168 B b bs r h0 h1 w h hl hB).mono fun _ _ ⟨he, hb, hbl, _⟩ => ⟨he, .inr hb, hbl⟩
end Go.Proofs.YtnacllcajadnoaaDoor
