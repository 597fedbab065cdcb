/- slices.insertionSortCmpFunc at this dump. -/
import Derived.Shelf.SlSortCmp.InsertionK
import Derived.Test.YtnjfmhabajcpoaaProg
namespace Go.Proofs
open Go.Shelf
def Try.insRt_ren : Go.Shelf.Ren := ⟨fun | 20 => 89 | n => n, fun | 24 => 65 | 22 => 63 | 3 => 3 | 25 => 71 | 4 => 4 | 0 => 0 | n => n, fun | n => n⟩
theorem Try.insRt : Go.Proofs.SlLaysF0.n20 Try.prog Try.insRt_ren := {
  mixed := by kernel_rfl
  f20 := ⟨Try.f89.name, by decide, Try.func89.trans (congrArg some (by kernel_rfl))⟩
  t0 := Try.underlying0
  a0 := Try.isAgg0
  z0 := Try.sizeOf0
  v0 := Try.zeroValue0
  t3 := Try.underlying3
  a3 := Try.isAgg3
  z3 := Try.sizeOf3
  v3 := Try.zeroValue3
  t4 := Try.underlying4
  a4 := Try.isAgg4
  z4 := Try.sizeOf4
  v4 := Try.zeroValue4
  t22 := Try.underlying63
  a22 := Try.isAgg63
  z22 := Try.sizeOf63
  v22 := Try.zeroValue63
  t25 := Try.underlying71
  a25 := Try.isAgg71
  z25 := Try.sizeOf71
  v25 := Try.zeroValue71 }
end Go.Proofs
