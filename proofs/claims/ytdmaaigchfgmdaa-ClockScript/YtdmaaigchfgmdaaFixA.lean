/- What the small functions of package fixed return, for every input: bound, size, Add, Sub, Neg, Mean, Clamp, Cut. -/
import Derived.Test.YtdmaaigchfgmdaaDiv
import Derived.Test.YtdmaaigchfgmdaaNum
import Derived.Test.YtdmaaigchfgmdaaMean
import Derived.WalkKit
import Derived.WalkSpells
import Derived.WalkLawsBesides
namespace Go.Proofs.Ytdmaaigchfgmdaa
open Go.RowKit
theorem ret_u64 {a b : Int} (h : a = b) : Ending.returned (.int .u64 a) = .returned (.int .u64 b) := by rw [h]
set_option maxHeartbeats 400000 in
theorem bound_any (a m : Int) (w : World) (h0 : 0 ≤ m) (h1 : m ≤ 4611686018427387904) :
    Calls Try.prog 44 #[.int .i64 a, .int .i64 m] w fun e w' => e = .returned (.int .i64 (Fx.cl m a)) ∧ w' = w := by
  go_enter Try.func44, Try.ntmps44
  go_wp2
  all_goals
    go_ret
    exact ⟨ret_i64 (by unfold Fx.cl; split at * <;> omega), rfl⟩
set_option maxHeartbeats 400000 in
theorem size_any (a : Int) (w : World) (h0 : -9223372036854775808 ≤ a) (h1 : a ≤ 9223372036854775807) :
    Calls Try.prog 93 #[.int .i64 a] w fun e w' => e = .returned (.int .u64 (a.natAbs : Int)) ∧ w' = w := by
  go_enter Try.func93, Try.ntmps93
  go_wp2
  all_goals
    go_ret
    exact ⟨ret_u64 (by (try simp only [IntKind.wrap_u64]); omega), rfl⟩
theorem mul64_nat (x y : Nat) (w : World) (hx : x < 18446744073709551616) (hy : y < 18446744073709551616) :
    Calls Try.prog 92 #[.int .u64 x, .int .u64 y] w fun e w' => e = .returned (.tuple #[.int .u64 ((x * y / 18446744073709551616 : Nat) : Int), .int .u64 ((x * y % 18446744073709551616 : Nat) : Int)]) ∧ w' = w := by
  refine (mul64_any x y w (by omega) (by omega) (by omega) (by omega)).mono ?_
  rintro e w' ⟨rfl, rfl⟩
  exact ⟨ret2_u64 (by rw [← Int.natCast_mul]; rfl) (by rw [← Int.natCast_mul]; rfl), rfl⟩
set_option maxHeartbeats 400000 in
theorem add_any (a b : Int) (w : World) (ha0 : -9223372036854775808 ≤ a) (ha1 : a ≤ 9223372036854775807) (hb0 : -9223372036854775808 ≤ b) (hb1 : b ≤ 9223372036854775807) :
    Calls Try.prog 27 #[.int .i64 a, .int .i64 b] w fun e w' => e = .returned (.int .i64 (Fx.cl 4611686018427387904 (a + b))) ∧ w' = w := by
  go_enter Try.func27, Try.ntmps27
  go_wp2_with (go_at_call 44; refine (bound_any _ _ _ (by omega) (by omega)).mono ?_; rintro e w' ⟨rfl, rfl⟩)
  all_goals
    go_ret
    exact ⟨ret_i64 (by simp only [Fx.cl, wrap64] at *; omega), rfl⟩
set_option maxHeartbeats 400000 in
theorem clamp_any (a m : Int) (w : World) :
    Calls Try.prog 25 #[.int .i64 a, .int .i64 m] w fun e w' => e = .returned (.int .i64 (if m < 0 then 0 else Fx.cl (min m 4611686018427387904) a)) ∧ w' = w := by
  by_cases hm : m < 0
  · go_enter Try.func25, Try.ntmps25
    go_wp2_with (go_at_call 44; refine (bound_any _ _ _ (by omega) (by omega)).mono ?_; rintro e w' ⟨rfl, rfl⟩)
    go_ret
    exact ⟨rfl, rfl⟩
  · by_cases hM : 4611686018427387904 < m
    all_goals
      go_enter Try.func25, Try.ntmps25
      go_wp2_with (go_at_call 44; refine (bound_any _ _ _ (by omega) (by omega)).mono ?_; rintro e w' ⟨rfl, rfl⟩)
      go_ret
      exact ⟨ret_i64 (by first | rw [Int.min_eq_right (by omega)] | rw [Int.min_eq_left (by omega)]), rfl⟩
set_option maxHeartbeats 400000 in
theorem boundF_any (a m : Int) (w : World) (h0 : 0 ≤ m) (h1 : m ≤ 4611686018427387904) :
    Calls Try.prog 45 #[.int .i64 a, .int .i64 m] w fun e w' => e = .returned (.int .i64 (Fx.cl m a)) ∧ w' = w := by
  go_enter Try.func45, Try.ntmps45
  go_wp2
  all_goals
    go_ret
    exact ⟨ret_i64 (by unfold Fx.cl; split at * <;> omega), rfl⟩
set_option maxHeartbeats 400000 in
theorem cut_any (a : Int) (w : World) :
    Calls Try.prog 26 #[.int .i64 a] w fun e w' => e = .returned (.int .i64 (Fx.cl 140737488355 a)) ∧ w' = w := by
  go_enter Try.func26, Try.ntmps26
  go_wp2_with (go_at_call 45; refine (boundF_any _ _ _ (by omega) (by omega)).mono ?_; rintro e w' ⟨rfl, rfl⟩)
  go_ret
  exact ⟨rfl, rfl⟩
end Go.Proofs.Ytdmaaigchfgmdaa
