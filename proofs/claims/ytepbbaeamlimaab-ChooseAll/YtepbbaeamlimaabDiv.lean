/- Math/bits.Div64 returns quotient and rest of the number in two words, where the high word is below the divisor. -/
import Derived.Test.YtepbbaeamlimaabDivw
import Derived.WalkKit
import Derived.WalkSpells
import Derived.WalkLawsBesides
import Derived.Deep.QuietTactic
import Derived.BigQuiet
namespace Go.Proofs.Ytepbbaeamlimaab
open Go.RowKit FxDiv
end Go.Proofs.Ytepbbaeamlimaab
