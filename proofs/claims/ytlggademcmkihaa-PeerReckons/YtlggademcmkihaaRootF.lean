/- What Root of package fixed returns: the greatest whole number whose square is at most the number times 2^32; 0 where the number is not above 0. -/
import Derived.Test.YtlggademcmkihaaRoot
import Derived.WalkKit
import Derived.ProofKit
import Derived.WalkSpells
import Derived.WalkLawsBesides
namespace Go.Proofs.Ytlggademcmkihaa
open Go.RowKit
theorem sq_lt (F A : Nat) (h : F * F ≤ A * 4294967296) (hA : A < 9223372036854775808) : F < 9223372036854775808 := by
  refine Nat.lt_of_not_le fun x => ?_
  have := Nat.mul_le_mul x x
  omega
end Go.Proofs.Ytlggademcmkihaa
