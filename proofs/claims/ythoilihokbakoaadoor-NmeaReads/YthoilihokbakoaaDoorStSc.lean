/- What the reference's ToDate returns. -/
import Derived.Test.YthoilihokbakoaaDoorStSa
import Derived.Test.YthoilihokbakoaaDoorStSb
import Derived.Test.YthoilihokbakoaaDoorStSd
import Derived.Test.YthoilihokbakoaaDoorStD
import Derived.WalkKit
import Derived.WalkSpells
import Derived.WalkLawsBesides
import Derived.Handy
import Derived.Below
import Derived.Deep.QuietTactic
import Derived.BigQuiet
namespace Go.Proofs.YthoilihokbakoaaDoor
open Go.RowKit
theorem rtoDate_no (y m d h n s f : Int) (w : World) (hx : ¬ (Cal.Day y m d ∧ Cal.Time h n s)) :
    Calls Tryd.prog 23 #[.agg #[.int .i64 y, .int .i64 m, .int .i64 d, .int .i64 h, .int .i64 n, .int .i64 s, .int .u32 f]] w fun e w' => e = .returned (noD 20) ∧ Below w.heap.size w w' := by
  by_cases c0 : y < 1
  · exact rto_no0 y m d h n s f w  c0
  by_cases c1 : 2100 < y
  · exact rto_no1 y m d h n s f w (by omega) c1
  by_cases c2 : m < 1
  · exact rto_no2 y m d h n s f w (by omega) (by omega) c2
  by_cases c3 : 12 < m
  · exact rto_no3 y m d h n s f w (by omega) (by omega) (by omega) c3
  by_cases c4 : d < 1
  · exact rto_no4 y m d h n s f w (by omega) (by omega) (by omega) (by omega) c4
  by_cases c5 : Cal.dim y m < d
  · exact rto_no5 y m d h n s f w (by omega) (by omega) (by omega) (by omega) (by omega) c5
  by_cases c6 : h < 0
  · exact rto_no6 y m d h n s f w (by omega) (by omega) (by omega) (by omega) (by omega) (by omega) c6
  by_cases c7 : 23 < h
  · exact rto_no7 y m d h n s f w (by omega) (by omega) (by omega) (by omega) (by omega) (by omega) (by omega) c7
  by_cases c8 : n < 0
  · exact rto_no8 y m d h n s f w (by omega) (by omega) (by omega) (by omega) (by omega) (by omega) (by omega) (by omega) c8
  by_cases c9 : 59 < n
  · exact rto_no9 y m d h n s f w (by omega) (by omega) (by omega) (by omega) (by omega) (by omega) (by omega) (by omega) (by omega) c9
  by_cases c10 : s < 0
  · exact rto_no10 y m d h n s f w (by omega) (by omega) (by omega) (by omega) (by omega) (by omega) (by omega) (by omega) (by omega) (by omega) c10
  by_cases c11 : 59 < s
  · exact rto_no11 y m d h n s f w (by omega) (by omega) (by omega) (by omega) (by omega) (by omega) (by omega) (by omega) (by omega) (by omega) (by omega) c11
  exact absurd ⟨⟨by omega, by omega, by omega, by omega, by omega, by omega⟩, ⟨by omega, by omega, by omega, by omega, by omega, by omega⟩⟩ hx
theorem rtoDate_any (y m d h n s f : Int) (w : World) (f0 : 0 ≤ f) (f1 : f < 4294967296) :
    Calls Tryd.prog 23 #[.agg #[.int .i64 y, .int .i64 m, .int .i64 d, .int .i64 h, .int .i64 n, .int .i64 s, .int .u32 f]] w fun e w' => e = .returned (.tuple #[.agg #[.int .i64 (dE y m d h n s), .int .u64 (dT y m d h n s f)], .int .i64 (dC y m d h n s)]) ∧ Below w.heap.size w w' := by
  by_cases hx : Cal.Day y m d ∧ Cal.Time h n s
  · refine (rtoDate_yes y m d h n s f w hx.1 hx.2 f0 f1).mono ?_
    rintro e w' ⟨rfl, hb⟩
    exact ⟨by unfold dE dT dC yesD; rw [okD_t hx.1 hx.2]; rfl, hb⟩
  · refine (rtoDate_no y m d h n s f w hx).mono ?_
    rintro e w' ⟨rfl, hb⟩
    exact ⟨by unfold dE dT dC noD; rw [okD_f hx]; rfl, hb⟩
end Go.Proofs.YthoilihokbakoaaDoor
