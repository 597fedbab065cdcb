/- slices.insertionSortCmpFunc at this dump. -/
import Derived.Shelf.SlSortCmp.InsertionK
import Derived.Test.YtdlipponajilbaaProg
namespace Go.Proofs
open Go.Shelf
def Try.insRt_ren : Go.Shelf.Ren := ⟨fun | 20 => 80 | n => n, fun | 24 => 55 | 22 => 53 | 3 => 3 | 25 => 61 | 4 => 4 | 0 => 0 | n => n, fun | n => n⟩
theorem Try.insRt : Go.Proofs.SlLaysF0.n20 Try.prog Try.insRt_ren := {
  mixed := by kernel_rfl
  f20 := ⟨Try.f80.name, by decide, Try.func80.trans (congrArg some (by kernel_rfl))⟩
  t0 := Try.underlying0
  a0 := Try.isAgg0
  z0 := Try.sizeOf0
  v0 := Try.zeroValue0
  t3 := Try.underlying3
  a3 := Try.isAgg3
  z3 := Try.sizeOf3
  v3 := Try.zeroValue3
  t4 := Try.underlying4
  a4 := Try.isAgg4
  z4 := Try.sizeOf4
  v4 := Try.zeroValue4
  t22 := Try.underlying53
  a22 := Try.isAgg53
  z22 := Try.sizeOf53
  v22 := Try.zeroValue53
  t25 := Try.underlying61
  a25 := Try.isAgg61
  z25 := Try.sizeOf61
  v25 := Try.zeroValue61 }
end Go.Proofs
