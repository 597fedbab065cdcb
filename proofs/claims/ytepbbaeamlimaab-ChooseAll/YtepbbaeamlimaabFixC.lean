/- What Mul, Scale, Drift, Rate, Shift and Power of package fixed return, for every input. -/
import Derived.Test.YtepbbaeamlimaabFixB
import Derived.WalkKit
import Derived.ProofKit
import Derived.WalkSpells
import Derived.WalkLawsBesides
namespace Go.Proofs.Ytepbbaeamlimaab
open Go.RowKit
theorem grown_drewN (w : World) (n : Nat) : Grown w (w.drewN n) := Grown.refl w
theorem ret_bool {a b : Bool} (h : a = b) : Ending.returned (.bool a) = .returned (.bool b) := by rw [h]
end Go.Proofs.Ytepbbaeamlimaab
