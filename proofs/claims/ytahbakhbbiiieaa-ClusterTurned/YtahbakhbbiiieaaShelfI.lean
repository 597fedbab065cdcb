/- slices.insertionSortCmpFunc at this dump. -/
import Derived.Shelf.SlSortCmp.InsertionK
import Derived.Test.YtahbakhbbiiieaaProg
namespace Go.Proofs
open Go.Shelf
def Try.insRt_ren : Go.Shelf.Ren := ⟨fun | 20 => 81 | n => n, fun | 24 => 57 | 22 => 55 | 3 => 3 | 25 => 63 | 4 => 4 | 0 => 0 | n => n, fun | n => n⟩
theorem Try.insRt : Go.Proofs.SlLaysF0.n20 Try.prog Try.insRt_ren := {
  mixed := by kernel_rfl
  f20 := ⟨Try.f81.name, by decide, Try.func81.trans (congrArg some (by kernel_rfl))⟩
  t0 := Try.underlying0
  a0 := Try.isAgg0
  z0 := Try.sizeOf0
  v0 := Try.zeroValue0
  t3 := Try.underlying3
  a3 := Try.isAgg3
  z3 := Try.sizeOf3
  v3 := Try.zeroValue3
  t4 := Try.underlying4
  a4 := Try.isAgg4
  z4 := Try.sizeOf4
  v4 := Try.zeroValue4
  t22 := Try.underlying55
  a22 := Try.isAgg55
  z22 := Try.sizeOf55
  v22 := Try.zeroValue55
  t25 := Try.underlying63
  a25 := Try.isAgg63
  z25 := Try.sizeOf63
  v25 := Try.zeroValue63 }
end Go.Proofs
