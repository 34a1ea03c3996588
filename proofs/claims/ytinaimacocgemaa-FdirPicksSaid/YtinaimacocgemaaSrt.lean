/- Layer 22: the sort that Order calls: the library's insertion sort, over alarms. -/
import Derived.Shelf.SlSortCmp.InsertionK
import Derived.Test.YtinaimacocgemaaFd
namespace Go.Proofs.Ytinaimacocgemaa
open Go.RowKit Go.Own Go.Shelf Go.Lib Go.Sort
set_option linter.unusedVariables false
set_option linter.unusedSimpArgs false
/-- The library's numbers of functions and types, as this program has them. -/
def rhoS : Ren := ⟨fun n => if n = 20 then 122 else n, fun t => if t = 0 then 0 else if t = 3 then 3 else if t = 4 then 4 else if t = 22 then 79 else if t = 24 then 84 else if t = 25 then 157 else t, fun g => g⟩
theorem bears20 : Bears Try.prog (rhoS.f 20) (SlBodyF.n20 rhoS) := ⟨"slices.insertionSortCmpFunc[aerie/fdir.Alarm]", by decide, by kernel_rfl⟩
theorem lays20 : SlLaysF0.n20 Try.prog rhoS where
  mixed := by kernel_rfl
  f20 := bears20
  t0 := by kernel_rfl
  a0 := fun w => by kernel_rfl
  z0 := fun w => by kernel_rfl
  v0 := fun w => by kernel_rfl
  t3 := by kernel_rfl
  a3 := fun w => by kernel_rfl
  z3 := fun w => by kernel_rfl
  v3 := fun w => by kernel_rfl
  t4 := by kernel_rfl
  a4 := fun w => by kernel_rfl
  z4 := fun w => by kernel_rfl
  v4 := fun w => by kernel_rfl
  t22 := by kernel_rfl
  a22 := fun w => by kernel_rfl
  z22 := fun w => by kernel_rfl
  v22 := fun w => by kernel_rfl
  t25 := by kernel_rfl
  a25 := fun w => by kernel_rfl
  z25 := fun w => by kernel_rfl
  v25 := fun w => by kernel_rfl
end Go.Proofs.Ytinaimacocgemaa
