/-
  slices.SortFunc and slices.IndexFunc at rows of places: that the program holds the library's texts, under its own numbers (the tables are laid by a command). No condition.
-/
import Derived.Shelf.SlicesQ.IndexFunc
import Derived.Test.YtlcdbkelonbcfaaBase
import Derived.Test.YtlcdbkelonbcfaaRows
namespace Go.Proofs
open Go.Shelf
def Try.idxPl_ren : Go.Shelf.Ren := ⟨fun | 6 => 78 | n => n, fun | 22 => 44 | 23 => 40 | 25 => 103 | 3 => 3 | 0 => 0 | 4 => 4 | n => n, fun | n => n⟩
theorem Try.idxPl : Go.Proofs.SlLaysH0.n6 Try.prog Try.idxPl_ren := {
  mixed := by kernel_rfl
  f6 := ⟨Try.f78.name, by decide, Try.func78.trans (congrArg some (by kernel_rfl))⟩
  t0 := Try.underlying0
  a0 := Try.isAgg0
  z0 := Try.sizeOf0
  v0 := Try.zeroValue0
  t3 := Try.underlying3
  a3 := Try.isAgg3
  z3 := Try.sizeOf3
  v3 := Try.zeroValue3
  t4 := Try.underlying4
  a4 := Try.isAgg4
  z4 := Try.sizeOf4
  v4 := Try.zeroValue4
  t22 := Try.underlying44
  a22 := Try.isAgg44
  z22 := Try.sizeOf44
  v22 := Try.zeroValue44
  t25 := Try.underlying103
  a25 := Try.isAgg103
  z25 := Try.sizeOf103
  v25 := Try.zeroValue103 }
end Go.Proofs
