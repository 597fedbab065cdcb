/- What Mul, Scale, Drift, Rate, Shift and Power of package fixed return, for every input. -/
import Derived.Test.YtbagfnafkpbanaaFixB
import Derived.WalkKit
import Derived.ProofKit
import Derived.WalkSpells
import Derived.WalkLawsBesides
namespace Go.Proofs.Ytbagfnafkpbanaa
open Go.RowKit
theorem grown_drewN (w : World) (n : Nat) : Grown w (w.drewN n) := Grown.refl w
theorem ret_bool {a b : Bool} (h : a = b) : Ending.returned (.bool a) = .returned (.bool b) := by rw [h]
set_option maxHeartbeats 400000 in
theorem scale_any (a n d : Int) (w : World) (ha0 : -9223372036854775808 ≤ a) (ha1 : a ≤ 9223372036854775807) (hb0 : -9223372036854775808 ≤ n) (hb1 : n ≤ 9223372036854775807) (hd1 : d ≤ 9223372036854775807) :
    Calls Try.prog 50 #[.int .i64 a, .int .i64 n, .int .i64 d] w fun e w' => e = .returned (.int .i64 (if d ≤ 0 then 0 else Fx.cl 4611686018427387904 (a * n / d))) ∧ ∃ n, w' = w.drewN n := by
  by_cases hd : d ≤ 0
  · go_enter Try.func50, Try.ntmps50
    go_wp2
    go_ret
    exact ⟨rfl, 0, rfl⟩
  · go_enter Try.func50, Try.ntmps50
    go_wp2_with (go_at_call 65; refine (quotS_any _ _ _ _ _ (by omega) (by omega) (by omega) (by omega) (by omega) (by omega) (by omega) (by omega)).mono ?_; rintro e w' ⟨rfl, n, rfl⟩)
    go_ret
    exact ⟨by first | rfl | rw [if_neg (by omega)], w_drew _ _⟩
set_option maxHeartbeats 400000 in
theorem rate_any (a s : Int) (w : World) (ha0 : -9223372036854775808 ≤ a) (ha1 : a ≤ 9223372036854775807) (hb1 : s ≤ 9223372036854775807) :
    Calls Try.prog 47 #[.int .i64 a, .int .i64 s] w fun e w' => e = .returned (.int .i64 (if s ≤ 0 then 0 else Fx.cl 140737488355 (a * 281474976710656 / s))) ∧ ∃ n, w' = w.drewN n := by
  by_cases hd : s ≤ 0
  · go_enter Try.func47, Try.ntmps47
    go_wp2
    go_ret
    exact ⟨rfl, 0, rfl⟩
  · go_enter Try.func47, Try.ntmps47
    go_wp2_with (go_at_call 64; refine (quotF_any _ _ _ _ _ (by omega) (by omega) (by omega) (by omega) (by omega) (by omega) (by omega) (by omega)).mono ?_; rintro e w' ⟨rfl, n, rfl⟩)
    go_ret
    exact ⟨by first | rfl | rw [if_neg (by omega)], w_drew _ _⟩
end Go.Proofs.Ytbagfnafkpbanaa
