/- RestrictRecent, whole. -/
import Derived.Test.YtmgphfdieekpdaaLS
import Derived.Test.YtmgphfdieekpdaaLB
import Derived.Test.YtmgphfdieekpdaaRS
namespace Go.Proofs.Ytmgphfdieekpdaa
open Go Go.RowKit
theorem sortOk : SortOk := fun B v xs w h hB hl => sortSnAll_any B v xs w h hB hl
theorem RestrictRecent_row (v : Value) (us : List Int) (W : World) (ha : Rk W.heap.size W 1 v (us.map fun p => [Value.int .u32 p])) (_hra : Ra' v) (_hb : ∀ p ∈ us, U32 p) (hl : us.length * 4 ≤ 140737488351232) :
    Calls Try.prog 8 #[v] W fun e w' => e = .returned (.bool true) ∧ Below W.heap.size W w' := RestrictRecent_walk sortOk v us W ha hl
end Go.Proofs.Ytmgphfdieekpdaa
