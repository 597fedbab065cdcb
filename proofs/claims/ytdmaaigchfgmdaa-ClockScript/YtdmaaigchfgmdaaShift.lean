/- What Shift and Power of package fixed return, for every input. -/
import Derived.Test.YtdmaaigchfgmdaaFixC
import Derived.WalkKit
import Derived.WalkSpells
import Derived.WalkLawsBesides
namespace Fx
/-- a number times a power of two, cut; divided down where the power is below 0 -/
def sh (a n : Int) : Int := if n < 0 then a / 2 ^ (min (-n) 63).toNat else cl 4611686018427387904 (a * 2 ^ n.toNat)
theorem pow_le62 (k : Nat) (h : k ≤ 62) : (4611686018427387904 : Int) / 2 ^ k * 2 ^ k = 4611686018427387904 := by
  have e : (4611686018427387904 : Int) = 2 ^ (62 - k) * 2 ^ k := by
    rw [← Int.pow_add, show 62 - k + k = 62 from by omega]; decide
  have hp : (0 : Int) < 2 ^ k := Int.pow_pos (by decide)
  rw [e, Int.mul_ediv_cancel _ (by omega)]
theorem sh_far (a n : Int) (hn : 0 ≤ n) (h : 4611686018427387904 / 2 ^ n.toNat < a) (hk : n ≤ 62) : sh a n = 4611686018427387904 := by
  have hp : (0 : Int) < 2 ^ n.toNat := Int.pow_pos (by decide)
  unfold sh
  rw [if_neg (by omega)]
  refine cl_up (by decide) ?_
  have := pow_le62 n.toNat (by omega)
  have h2 := Int.mul_le_mul_of_nonneg_right (Int.le_of_lt h) (Int.le_of_lt hp)
  omega
theorem sh_nfar (a n : Int) (hn : 0 ≤ n) (h : a < -(4611686018427387904 / 2 ^ n.toNat)) (hk : n ≤ 62) : sh a n = -4611686018427387904 := by
  have hp : (0 : Int) < 2 ^ n.toNat := Int.pow_pos (by decide)
  unfold sh
  rw [if_neg (by omega)]
  refine cl_dn (by decide) ?_
  have := pow_le62 n.toNat (by omega)
  have h2 := Int.mul_le_mul_of_nonneg_right (Int.le_of_lt h) (Int.le_of_lt hp)
  rw [Int.neg_mul] at h2
  omega
theorem sh_in (a n : Int) (hn : 0 ≤ n) (h0 : -(4611686018427387904 / 2 ^ n.toNat) ≤ a) (h1 : a ≤ 4611686018427387904 / 2 ^ n.toNat) (hk : n ≤ 62) : sh a n = a * 2 ^ n.toNat ∧ -4611686018427387904 ≤ a * 2 ^ n.toNat ∧ a * 2 ^ n.toNat ≤ 4611686018427387904 := by
  have hp : (0 : Int) < 2 ^ n.toNat := Int.pow_pos (by decide)
  have := pow_le62 n.toNat (by omega)
  have h2 := Int.mul_le_mul_of_nonneg_right h0 (Int.le_of_lt hp)
  have h3 := Int.mul_le_mul_of_nonneg_right h1 (Int.le_of_lt hp)
  rw [Int.neg_mul] at h2
  refine ⟨?_, by omega, by omega⟩
  unfold sh
  rw [if_neg (by omega)]
  exact cl_in (by omega) (by omega)
theorem big_pow (k : Nat) (h : 63 ≤ k) : (9223372036854775808 : Int) ≤ 2 ^ k := by
  have h1 : (2 : Nat) ^ 63 ≤ 2 ^ k := Nat.pow_le_pow_right (by decide) h
  have h2 : ((2 ^ 63 : Nat) : Int) ≤ ((2 ^ k : Nat) : Int) := Int.ofNat_le.2 h1
  rw [Int.natCast_pow] at h2
  exact h2
theorem sh_hi_pos (a n : Int) (hn : 62 < n) (h : 0 < a) : sh a n = 4611686018427387904 := by
  have hp := big_pow n.toNat (by omega)
  unfold sh
  rw [if_neg (by omega)]
  refine cl_up (by decide) ?_
  have h2 := Int.mul_le_mul_of_nonneg_right (show 1 ≤ a from h) (show 0 ≤ (2 : Int) ^ n.toNat by omega)
  omega
theorem sh_hi_neg (a n : Int) (hn : 62 < n) (h : a < 0) : sh a n = -4611686018427387904 := by
  have hp := big_pow n.toNat (by omega)
  unfold sh
  rw [if_neg (by omega)]
  refine cl_dn (by decide) ?_
  have h2 := Int.mul_le_mul_of_nonneg_right (show a ≤ -1 by omega) (show 0 ≤ (2 : Int) ^ n.toNat by omega)
  omega
theorem sh_hi_zero (n : Int) (hn : 62 < n) : sh 0 n = 0 := by
  unfold sh
  rw [if_neg (by omega), Int.zero_mul]
  exact cl_in (by decide) (by decide)
theorem sh_neg (a n : Int) (hn : n < 0) : sh a n = a / 2 ^ (min (-n) 63).toNat := by unfold sh; rw [if_pos hn]
theorem most_zero (n : Int) (hn : 62 < n) : (4611686018427387904 : Int) / 2 ^ min n.toNat 64 = 0 := by
  have hp := big_pow (min n.toNat 64) (by omega)
  exact Int.ediv_eq_zero_of_lt (by decide) (by omega)
end Fx
namespace Go.Proofs.Ytdmaaigchfgmdaa
open Go.RowKit
end Go.Proofs.Ytdmaaigchfgmdaa
