/- RestrictMemory, whole. -/
import Derived.Test.YtmgphfdieekpdaaMG
import Derived.Test.YtmgphfdieekpdaaLB
import Derived.Test.YtmgphfdieekpdaaRS
namespace Go.Proofs.Ytmgphfdieekpdaa
open Go Go.RowKit
theorem sortOk : SortOk := fun B v xs w h hB hl => sortSnAll_any B v xs w h hB hl
theorem RestrictMemory_row (av mn : Int) (v : Value) (ps : List Ru) (W : World) (_hav : I64 av) (_hmn : I64 mn) (ha : Rk W.heap.size W 3 v (ps.map ruL)) (_hra : Ra' v) (hb : ∀ a ∈ ps, U32 a.addr ∧ I64 a.bits ∧ I64 a.flags) (hl : ps.length * 24 ≤ 140737488351232) :
    Calls Try.prog 6 #[.int .i64 av, .int .i64 mn, v] W fun e w' => e = .returned (.bool true) ∧ Below W.heap.size W w' := RestrictMemory_walk sortOk av mn v ps W ha (fun a h => by have h1 := hb a h; unfold U32 I64 at h1; omega) hl
end Go.Proofs.Ytmgphfdieekpdaa
