/- The law WireParts: where the packet may not be. -/
import Derived.Test.YtdobghhjlfffpaaXH
import Derived.Test.YtdobghhjlfffpaaXI
import Derived.Test.YtdobghhjlfffpaaXJ
import Derived.Test.YtdobghhjlfffpaaXL
namespace Go.Proofs.Ytdobghhjlfffpaa
open Go.RowKit
end Go.Proofs.Ytdobghhjlfffpaa
