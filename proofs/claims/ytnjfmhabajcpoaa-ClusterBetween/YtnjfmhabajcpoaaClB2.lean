/- ClusterBetween. -/
import Derived.Test.YtnjfmhabajcpoaaClB1
import Derived.Test.YtnjfmhabajcpoaaClC0
namespace Go.Proofs.Ytnjfmhabajcpoaa
open Go Go.RowKit Go.Sort
theorem ClusterBetween_row (v : Value) (l : List Cn) (W : World) (h : Rk W.heap.size W 7 v (l.map cnL)) (ok : ∀ c ∈ l, okC c) (hl : l.length ≤ maxLen) : Calls Try.prog 7 #[v] W fun e w' => e = .returned (.bool true) ∧ Below W.heap.size W w' :=
  between_main v l W _ h (Nat.le_refl _) ok hl shown_any
end Go.Proofs.Ytnjfmhabajcpoaa
