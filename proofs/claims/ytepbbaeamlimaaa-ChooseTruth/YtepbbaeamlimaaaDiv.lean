/- Math/bits.Div64 returns quotient and rest of the number in two words, where the high word is below the divisor. -/
import Derived.Test.YtepbbaeamlimaaaDivw
import Derived.WalkKit
import Derived.WalkSpells
import Derived.WalkLawsBesides
import Derived.Deep.QuietTactic
import Derived.BigQuiet
namespace Go.Proofs.Ytepbbaeamlimaaa
open Go.RowKit FxDiv
end Go.Proofs.Ytepbbaeamlimaaa
