/- Math/bits.Div64 returns quotient and rest of the number in two words, where the high word is below the divisor. -/
import Derived.Test.YtdmaaigchfgmdaaDivw
import Derived.WalkKit
import Derived.WalkSpells
import Derived.WalkLawsBesides
import Derived.Deep.QuietTactic
import Derived.BigQuiet
namespace Go.Proofs.Ytdmaaigchfgmdaa
open Go.RowKit FxDiv
set_option maxHeartbeats 400000 in
theorem div64_zero (lo y : Nat) (w : World) (h : 0 < y) (hl : lo < 18446744073709551616) (hy : y < 18446744073709551616) :
    Calls Try.prog 94 #[.int .u64 0, .int .u64 lo, .int .u64 y] w fun e w' => e = .returned (.tuple #[.int .u64 ((lo / y : Nat) : Int), .int .u64 ((lo % y : Nat) : Int)]) ∧ ∃ n, w' = w.drewN n := by
  have c1 : ((y : Int) == 0) = false := beq_eq_false_iff_ne.2 (by omega)
  go_enter Try.func94, Try.ntmps94
  go_wp2
  go_quiet (fail)
  go_wp2
  go_ret2
  refine ⟨ret2_u64 ?_ ?_, _, rfl⟩
  · exact start_q lo y hl
  · exact (Int.natCast_emod lo y).symm
theorem div64_any (hi lo y : Nat) (w : World) (h : hi < y) (hl : lo < 18446744073709551616) (hy : y < 18446744073709551616) :
    Calls Try.prog 94 #[.int .u64 hi, .int .u64 lo, .int .u64 y] w fun e w' => e = .returned (.tuple #[.int .u64 (((hi * 18446744073709551616 + lo) / y : Nat) : Int), .int .u64 (((hi * 18446744073709551616 + lo) % y : Nat) : Int)]) ∧ ∃ n, w' = w.drewN n := by
  rcases Nat.eq_zero_or_pos hi with h0 | h0
  · rw [h0, show ((0 : Nat) : Int) = 0 from rfl, Nat.zero_mul, Nat.zero_add]
    exact div64_zero lo y w (by omega) hl hy
  · refine (div64_pos hi lo y w h0 h hl hy).mono ?_
    rintro e w' ⟨rfl, rfl⟩
    exact ⟨rfl, 0, rfl⟩
end Go.Proofs.Ytdmaaigchfgmdaa
