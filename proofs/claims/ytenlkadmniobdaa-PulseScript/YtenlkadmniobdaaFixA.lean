/- What the small functions of package fixed return, for every input: bound, size, Add, Sub, Neg, Mean, Clamp, Cut. -/
import Derived.Test.YtenlkadmniobdaaDiv
import Derived.Test.YtenlkadmniobdaaNum
import Derived.Test.YtenlkadmniobdaaMean
import Derived.WalkKit
import Derived.WalkSpells
import Derived.WalkLawsBesides
namespace Go.Proofs.Ytenlkadmniobdaa
open Go.RowKit
theorem ret_u64 {a b : Int} (h : a = b) : Ending.returned (.int .u64 a) = .returned (.int .u64 b) := by rw [h]
set_option maxHeartbeats 400000 in
theorem bound_any (a m : Int) (w : World) (h0 : 0 ≤ m) (h1 : m ≤ 4611686018427387904) :
    Calls Try.prog 37 #[.int .i64 a, .int .i64 m] w fun e w' => e = .returned (.int .i64 (Fx.cl m a)) ∧ w' = w := by
  go_enter Try.func37, Try.ntmps37
  go_wp2
  all_goals
    go_ret
    exact ⟨ret_i64 (by unfold Fx.cl; split at * <;> omega), rfl⟩
set_option maxHeartbeats 400000 in
theorem size_any (a : Int) (w : World) (h0 : -9223372036854775808 ≤ a) (h1 : a ≤ 9223372036854775807) :
    Calls Try.prog 71 #[.int .i64 a] w fun e w' => e = .returned (.int .u64 (a.natAbs : Int)) ∧ w' = w := by
  go_enter Try.func71, Try.ntmps71
  go_wp2
  all_goals
    go_ret
    exact ⟨ret_u64 (by (try simp only [IntKind.wrap_u64]); omega), rfl⟩
theorem mul64_nat (x y : Nat) (w : World) (hx : x < 18446744073709551616) (hy : y < 18446744073709551616) :
    Calls Try.prog 70 #[.int .u64 x, .int .u64 y] w fun e w' => e = .returned (.tuple #[.int .u64 ((x * y / 18446744073709551616 : Nat) : Int), .int .u64 ((x * y % 18446744073709551616 : Nat) : Int)]) ∧ w' = w := by
  refine (mul64_any x y w (by omega) (by omega) (by omega) (by omega)).mono ?_
  rintro e w' ⟨rfl, rfl⟩
  exact ⟨ret2_u64 (by rw [← Int.natCast_mul]; rfl) (by rw [← Int.natCast_mul]; rfl), rfl⟩
set_option maxHeartbeats 400000 in
theorem add_any (a b : Int) (w : World) (ha0 : -9223372036854775808 ≤ a) (ha1 : a ≤ 9223372036854775807) (hb0 : -9223372036854775808 ≤ b) (hb1 : b ≤ 9223372036854775807) :
    Calls Try.prog 34 #[.int .i64 a, .int .i64 b] w fun e w' => e = .returned (.int .i64 (Fx.cl 4611686018427387904 (a + b))) ∧ w' = w := by
  go_enter Try.func34, Try.ntmps34
  go_wp2_with (go_at_call 37; refine (bound_any _ _ _ (by omega) (by omega)).mono ?_; rintro e w' ⟨rfl, rfl⟩)
  all_goals
    go_ret
    exact ⟨ret_i64 (by simp only [Fx.cl, wrap64] at *; omega), rfl⟩
set_option maxHeartbeats 400000 in
theorem sub_any (a b : Int) (w : World) (ha0 : -9223372036854775808 ≤ a) (ha1 : a ≤ 9223372036854775807) (hb0 : -9223372036854775808 ≤ b) (hb1 : b ≤ 9223372036854775807) :
    Calls Try.prog 42 #[.int .i64 a, .int .i64 b] w fun e w' => e = .returned (.int .i64 (Fx.cl 4611686018427387904 (a - b))) ∧ w' = w := by
  go_enter Try.func42, Try.ntmps42
  go_wp2_with (go_at_call 37; refine (bound_any _ _ _ (by omega) (by omega)).mono ?_; rintro e w' ⟨rfl, rfl⟩)
  all_goals
    go_ret
    exact ⟨ret_i64 (by simp only [Fx.cl, wrap64] at *; omega), rfl⟩
set_option maxHeartbeats 400000 in
theorem neg_any (a : Int) (w : World) (ha0 : -9223372036854775808 ≤ a) (ha1 : a ≤ 9223372036854775807) :
    Calls Try.prog 58 #[.int .i64 a] w fun e w' => e = .returned (.int .i64 (Fx.cl 4611686018427387904 (-a))) ∧ w' = w := by
  go_enter Try.func58, Try.ntmps58
  go_wp2_with (go_at_call 42; refine (sub_any _ _ _ (by omega) (by omega) (by omega) (by omega)).mono ?_; rintro e w' ⟨rfl, rfl⟩)
  go_ret
  exact ⟨rfl, rfl⟩
set_option maxHeartbeats 400000 in
theorem clamp_any (a m : Int) (w : World) :
    Calls Try.prog 27 #[.int .i64 a, .int .i64 m] w fun e w' => e = .returned (.int .i64 (if m < 0 then 0 else Fx.cl (min m 4611686018427387904) a)) ∧ w' = w := by
  by_cases hm : m < 0
  · go_enter Try.func27, Try.ntmps27
    go_wp2_with (go_at_call 37; refine (bound_any _ _ _ (by omega) (by omega)).mono ?_; rintro e w' ⟨rfl, rfl⟩)
    go_ret
    exact ⟨rfl, rfl⟩
  · by_cases hM : 4611686018427387904 < m
    all_goals
      go_enter Try.func27, Try.ntmps27
      go_wp2_with (go_at_call 37; refine (bound_any _ _ _ (by omega) (by omega)).mono ?_; rintro e w' ⟨rfl, rfl⟩)
      go_ret
      exact ⟨ret_i64 (by first | rw [Int.min_eq_right (by omega)] | rw [Int.min_eq_left (by omega)]), rfl⟩
end Go.Proofs.Ytenlkadmniobdaa
