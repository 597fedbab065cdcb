/- PeerForged, walked; its slices, opened. -/
import Derived.Test.YtlggademcmkihaaIK
import Derived.Test.YtlggademcmkihaaIL
import Derived.Test.YtlggademcmkihaaIMo
namespace Go.Proofs.Ytlggademcmkihaa
open Go.ChangeShapes Go.WideShapes Go.ChangeAt Go.RowKit Go.Deep
theorem PeerForged_row (a : As) (own : Int) (v : Value) (fv : Value) (xs : List Stp) (fs : List (List Stp)) (w : World) (hk : W64 a.kind) (hv : Sx w.heap.size w v xs) (hf : Sxx w.heap.size w fv fs) :
    Calls Try.prog 7 #[.agg (asL a).toArray, .int .u32 own, v, fv] w fun e w' => e = .returned (.bool true) ∧ Below w.heap.size w w' := by
  by_cases h0 : a.key = 0
  · exact forged_0 a own v fv xs fs w hk hv hf h0
  · exact forged_1 a own v fv xs fs w hk hv hf h0
end Go.Proofs.Ytlggademcmkihaa
