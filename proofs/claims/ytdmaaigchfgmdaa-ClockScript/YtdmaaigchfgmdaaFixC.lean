/- What Mul, Scale, Drift, Rate, Shift and Power of package fixed return, for every input. -/
import Derived.Test.YtdmaaigchfgmdaaFixB
import Derived.WalkKit
import Derived.ProofKit
import Derived.WalkSpells
import Derived.WalkLawsBesides
namespace Go.Proofs.Ytdmaaigchfgmdaa
open Go.RowKit
theorem grown_drewN (w : World) (n : Nat) : Grown w (w.drewN n) := Grown.refl w
theorem ret_bool {a b : Bool} (h : a = b) : Ending.returned (.bool a) = .returned (.bool b) := by rw [h]
set_option maxHeartbeats 400000 in
theorem drift_any (f s : Int) (w : World) (ha0 : -9223372036854775808 ≤ f) (ha1 : f ≤ 9223372036854775807) (hb0 : -9223372036854775808 ≤ s) (hb1 : s ≤ 9223372036854775807) :
    Calls Try.prog 90 #[.int .i64 f, .int .i64 s] w fun e w' => e = .returned (.int .i64 (Fx.cl 4611686018427387904 (f * s / 281474976710656))) ∧ ∃ n, w' = w.drewN n := by
  go_enter Try.func90, Try.ntmps90
  go_wp2_with (go_at_call 91; refine (quotS_any _ _ _ _ _ (by omega) (by omega) (by omega) (by omega) (by omega) (by omega) (by omega) (by omega)).mono ?_; rintro e w' ⟨rfl, n, rfl⟩)
  go_ret
  exact ⟨rfl, w_drew _ _⟩
end Go.Proofs.Ytdmaaigchfgmdaa
