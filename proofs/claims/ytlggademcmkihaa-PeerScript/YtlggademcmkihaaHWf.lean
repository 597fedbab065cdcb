/- Request of the program. -/
import Derived.Test.YtlggademcmkihaaHWb
import Derived.Test.YtlggademcmkihaaHWc
import Derived.Test.YtlggademcmkihaaHWd
import Derived.Test.YtlggademcmkihaaHWe
namespace Go.Proofs.Ytlggademcmkihaa
open Go Go.RowKit
theorem request_any (p : Nat) (s : Ps) (y : Sy) (poll xmt : Int) (w : World) (h : Pm w p s) (hs : okS s) : Calls Try.prog 33 #[.pointer (some ⟨p, 0, none⟩), .agg (syL y).toArray, .int .i64 poll, .int .u64 xmt] w fun e w' => e = .returned (.tuple #[.agg (pkC (rqP s y poll xmt)).toArray, .bool (rqB s y)]) ∧ Pm w' p (rqS s y xmt) ∧ w.grownBy w' (some p) := by
  by_cases c0 : (askI s.kind = 0 ∨ askI s.kind = 5 ∧ y.leap = 3)
  · exact request_no p s y poll xmt w h hs c0
  · by_cases hK5 : askI s.kind = 5 <;> cases hsc : scB y.str
    · exact request_tf p s y poll xmt w h hs c0 hK5 hsc
    · exact request_tt p s y poll xmt w h hs c0 hK5 hsc
    · exact request_ff p s y poll xmt w h hs c0 hK5 hsc
    · exact request_ft p s y poll xmt w h hs c0 hK5 hsc
end Go.Proofs.Ytlggademcmkihaa
