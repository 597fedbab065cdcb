/- What Mul, Scale, Shift, Drift, Rate and Cut of the reference return. -/
import Derived.Test.YtdmaaigchfgmdaaBigT
import Derived.Test.YtdmaaigchfgmdaaShift
import Derived.WalkKit
import Derived.WalkSpells
import Derived.WalkLawsBesides
import Derived.Handy
namespace Fx
theorem half_bd (a : Int) (k : Nat) (h0 : -9223372036854775808 ≤ a) (h1 : a ≤ 9223372036854775807) (hk : 1 ≤ k) : -4611686018427387904 ≤ a / 2 ^ k ∧ a / 2 ^ k ≤ 4611686018427387904 := by
  obtain ⟨k, rfl⟩ : ∃ j, k = j + 1 := ⟨k - 1, by omega⟩
  rw [Int.pow_succ, Int.mul_comm, ← Int.ediv_ediv_of_nonneg (by decide)]
  have hp : (0 : Int) < 2 ^ k := Int.pow_pos (by decide)
  have h2 : -4611686018427387904 ≤ a / 2 ∧ a / 2 ≤ 4611686018427387903 := by omega
  generalize a / 2 = b at *
  constructor
  · refine Int.le_ediv_of_mul_le hp ?_
    have := Int.mul_le_mul_of_nonneg_left (show 1 ≤ (2 : Int) ^ k by omega) (show (0 : Int) ≤ 4611686018427387904 by decide)
    rw [Int.neg_mul]; omega
  · have h3 : b / 2 ^ k < 4611686018427387905 := by
      refine Int.ediv_lt_of_lt_mul hp ?_
      have := Int.mul_le_mul_of_nonneg_left (show 1 ≤ (2 : Int) ^ k by omega) (show (0 : Int) ≤ 4611686018427387905 by decide)
      omega
    omega
theorem far_down (a : Int) (k : Nat) (h0 : -9223372036854775808 ≤ a) (h1 : a ≤ 9223372036854775807) (hk : 63 ≤ k) : a / 2 ^ k = if a < 0 then -1 else 0 := by
  have hp := big_pow k hk
  split
  · rw [Int.ediv_eq_iff_of_pos (by omega)]; omega
  · exact Int.ediv_eq_zero_of_lt (by omega) (by omega)
theorem sh_up_eq (a n : Int) (h : 0 ≤ n) : cl 4611686018427387904 (a * 2 ^ (min n 200).toNat) = sh a n := by
  by_cases hn : n ≤ 200
  · rw [show min n 200 = n from by omega]
    unfold sh
    rw [if_neg (by omega)]
  · rw [show min n 200 = 200 from by omega]
    have hp := big_pow (200 : Int).toNat (by decide)
    have hp' : (0 : Int) ≤ 2 ^ (200 : Int).toNat := by omega
    rcases Int.lt_trichotomy a 0 with ha | ha | ha
    · rw [sh_hi_neg a n (by omega) ha]
      refine cl_dn (by decide) ?_
      have := Int.mul_le_mul_of_nonneg_right (show a ≤ -1 by omega) hp'
      omega
    · subst ha
      rw [sh_hi_zero n (by omega), Int.zero_mul]
      exact cl_in (by decide) (by decide)
    · rw [sh_hi_pos a n (by omega) ha]
      refine cl_up (by decide) ?_
      have := Int.mul_le_mul_of_nonneg_right (show 1 ≤ a from ha) hp'
      omega
theorem sh_down_eq (a n m : Int) (h0 : -9223372036854775808 ≤ a) (h1 : a ≤ 9223372036854775807) (h : n < 0) (hm : m = max n (-200)) : cl 4611686018427387904 (a / 2 ^ (-m).toNat) = sh a n := by
  obtain ⟨b1, b2⟩ := half_bd a (-m).toNat h0 h1 (by omega)
  rw [cl_in b1 b2, sh_neg a n h]
  by_cases hn : -63 ≤ n
  · rw [show min (-n) 63 = -n from by omega, show m = n from by omega]
  · rw [show min (-n) 63 = 63 from by omega, far_down a _ h0 h1 (by omega), far_down a _ h0 h1 (by decide)]
end Fx
namespace Go.Proofs.Ytdmaaigchfgmdaa
open Go.RowKit
theorem Sm.two {m k : Nat} (h : m < 16 * k) : Sm k ((2 : Int) ^ m) := by
  unfold Sm
  rw [Int.natAbs_pow, show (65536 : Nat) = 2 ^ 16 from by decide, ← Nat.pow_mul]
  exact Nat.pow_lt_pow_right (by decide) h
set_option maxRecDepth 20000 in
set_option maxHeartbeats 1000000 in
theorem rdrift_raw (a b : Int) (w : World) (ha0 : -9223372036854775808 ≤ a) (ha1 : a ≤ 9223372036854775807) (hb0 : -9223372036854775808 ≤ b) (hb1 : b ≤ 9223372036854775807) :
    Calls Try.prog 61 #[.int .i64 a, .int .i64 b] w fun e w' => e = .returned (.int .i64 (Fx.cl 4611686018427387904 (a * b / 2 ^ (48 : Int).toNat))) ∧ Below w.heap.size w w' := by
  go_enter Try.func61, Try.ntmps61
  go_wp2_with fail
  refine (of_any a _ ha0 ha1).mono ?_
  rintro e w1 ⟨v1, rfl, i1, k1⟩
  have I1 : Hid (IsBig w.heap.size w1 v1 (a)) := i1
  have K1 : Hid (Below w.heap.size w w1) := k1
  clear i1 k1
  go_wp2_with fail
  refine (s_any b _ hb0 hb1).mono ?_
  rintro e w2 ⟨v2, rfl, i2, k2⟩
  have I2 : Hid (IsBig w1.heap.size w2 v2 (b)) := i2
  have I1_2 : Hid (IsBig w.heap.size w2 v1 (a)) := I1.out.below k2 (Nat.le_refl _)
  have K2 : Hid (Below w.heap.size w w2) := Below.then K1.out k2
  clear i2 k2 I1 K1
  go_wp2_with fail
  refine (product_big I1_2.out I2.out (Sm.word ha0 ha1) (Sm.word hb0 hb1) (by decide)).mono ?_
  rintro e w3 ⟨v3, rfl, i3, k3⟩
  have I3 : Hid (IsBig w2.heap.size w3 v3 (a * b)) := i3
  have I1_2_3 : Hid (IsBig w.heap.size w3 v1 (a)) := I1_2.out.below k3 (Nat.le_refl _)
  have I2_3 : Hid (IsBig w1.heap.size w3 v2 (b)) := I2.out.below k3 (Nat.le_refl _)
  have K3 : Hid (Below w.heap.size w w3) := Below.then K2.out k3
  clear i3 k3 I1_2 I2 K2
  go_wp2_with fail
  refine (two_any 48 _ (by decide) (by decide)).mono ?_
  rintro e w4 ⟨v4, rfl, i4, k4⟩
  have I4 : Hid (IsBig w3.heap.size w4 v4 (2 ^ (48 : Int).toNat)) := i4
  have I1_2_3_4 : Hid (IsBig w.heap.size w4 v1 (a)) := I1_2_3.out.below k4 (Nat.le_refl _)
  have I2_3_4 : Hid (IsBig w1.heap.size w4 v2 (b)) := I2_3.out.below k4 (Nat.le_refl _)
  have I3_4 : Hid (IsBig w2.heap.size w4 v3 (a * b)) := I3.out.below k4 (Nat.le_refl _)
  have K4 : Hid (Below w.heap.size w w4) := Below.then K3.out k4
  clear i4 k4 I1_2_3 I2_3 I3 K3
  go_wp2_with fail
  refine (down_big I3_4.out I4.out (Sm.mono (Sm.mul (Sm.word ha0 ha1) (Sm.word hb0 hb1)) (by decide : _ ≤ 100)) (Sm.two (by decide : (48 : Int).toNat < 16 * 100)) (by decide) (by decide)).mono ?_
  rintro e w5 ⟨v5, rfl, i5, k5⟩
  have I5 : Hid (IsBig w4.heap.size w5 v5 (a * b / 2 ^ (48 : Int).toNat)) := i5
  have I1_2_3_4_5 : Hid (IsBig w.heap.size w5 v1 (a)) := I1_2_3_4.out.below k5 (Nat.le_refl _)
  have I2_3_4_5 : Hid (IsBig w1.heap.size w5 v2 (b)) := I2_3_4.out.below k5 (Nat.le_refl _)
  have I3_4_5 : Hid (IsBig w2.heap.size w5 v3 (a * b)) := I3_4.out.below k5 (Nat.le_refl _)
  have I4_5 : Hid (IsBig w3.heap.size w5 v4 (2 ^ (48 : Int).toNat)) := I4.out.below k5 (Nat.le_refl _)
  have K5 : Hid (Below w.heap.size w w5) := Below.then K4.out k5
  clear i5 k5 I1_2_3_4 I2_3_4 I3_4 I4 K4
  go_wp2_with fail
  refine (span_big I5.out (Sm.div (Sm.mul (Sm.word ha0 ha1) (Sm.word hb0 hb1)) _) (by decide)).mono ?_
  rintro e w6 ⟨rfl, k6⟩
  have K6 : Hid (Below w.heap.size w w6) := Below.then K5.out k6
  clear k6 K5
  go_wp2
  go_ret
  exact ⟨rfl, K6.out⟩
theorem rdrift_any (a b : Int) (w : World) (ha0 : -9223372036854775808 ≤ a) (ha1 : a ≤ 9223372036854775807) (hb0 : -9223372036854775808 ≤ b) (hb1 : b ≤ 9223372036854775807) :
    Calls Try.prog 61 #[.int .i64 a, .int .i64 b] w fun e w' => e = .returned (.int .i64 (Fx.cl 4611686018427387904 (a * b / 281474976710656))) ∧ Below w.heap.size w w' := by
  have h := rdrift_raw a b w ha0 ha1 hb0 hb1
  rw [show (2 : Int) ^ (48 : Int).toNat = 281474976710656 from by decide] at h
  exact h
set_option maxRecDepth 20000 in
set_option maxHeartbeats 1000000 in
theorem rcutf_any (a : Int) (w : World) (ha0 : -9223372036854775808 ≤ a) (ha1 : a ≤ 9223372036854775807) :
    Calls Try.prog 32 #[.int .i64 a] w fun e w' => e = .returned (.int .i64 (Fx.cl 140737488355 a)) ∧ Below w.heap.size w w' := by
  go_enter Try.func32, Try.ntmps32
  go_wp2_with fail
  refine (of_any a _ ha0 ha1).mono ?_
  rintro e w1 ⟨v1, rfl, i1, k1⟩
  have I1 : Hid (IsBig w.heap.size w1 v1 (a)) := i1
  have K1 : Hid (Below w.heap.size w w1) := k1
  clear i1 k1
  go_wp2_with fail
  refine (cut_big I1.out (Sm.word ha0 ha1) (by decide) (by decide) (by decide)).mono ?_
  rintro e w2 ⟨rfl, k2⟩
  have K2 : Hid (Below w.heap.size w w2) := Below.then K1.out k2
  clear k2 K1
  go_wp2
  go_ret
  exact ⟨rfl, K2.out⟩
theorem pw_ge (j k : Nat) (h : j ≤ k) : (2 : Int) ^ j ≤ 2 ^ k := by
  have h1 : (2 : Nat) ^ j ≤ 2 ^ k := Nat.pow_le_pow_right (by decide) h
  have h2 : ((2 ^ j : Nat) : Int) ≤ ((2 ^ k : Nat) : Int) := Int.ofNat_le.2 h1
  rw [Int.natCast_pow, Int.natCast_pow] at h2
  exact h2
theorem power_low (n : Int) (h : n < -32) : Fx.sh 4294967296 n = 0 := by
  rw [Fx.sh_neg _ n (by omega)]
  have := pw_ge 33 (min (-n) 63).toNat (by omega)
  exact Int.ediv_eq_zero_of_lt (by decide) (by rw [show (2 : Int) ^ 33 = 8589934592 from by decide] at this; omega)
theorem power_mid (n : Int) (h0 : -32 ≤ n) : Fx.cl 4611686018427387904 (2 ^ (32 + n).toNat) = Fx.sh 4294967296 n := by
  by_cases hn : n < 0
  · have hp : (0 : Int) < 2 ^ (-n).toNat := Int.pow_pos (by decide)
    have e : (4294967296 : Int) = 2 ^ (32 + n).toNat * 2 ^ (-n).toNat := by
      rw [← Int.pow_add, show (32 + n).toNat + (-n).toNat = 32 from by omega]; decide
    have h1 := pw_ge (32 + n).toNat 32 (by omega)
    have h2 : (0 : Int) < 2 ^ (32 + n).toNat := Int.pow_pos (by decide)
    rw [show (2 : Int) ^ 32 = 4294967296 from by decide] at h1
    rw [Fx.sh_neg _ n hn, show min (-n) 63 = -n from by omega, Fx.cl_in (by omega) (by omega)]
    conv => rhs; rw [e]
    rw [Int.mul_ediv_cancel _ (by omega)]
  · unfold Fx.sh
    rw [if_neg hn, show (4294967296 : Int) = 2 ^ 32 from by decide, ← Int.pow_add, show (32 + n).toNat = 32 + n.toNat from by omega]
theorem power_high (n : Int) (h0 : 100 < n) : Fx.cl 4611686018427387904 (2 ^ (132 : Int).toNat) = Fx.sh 4294967296 n := by
  rw [Fx.sh_hi_pos _ n (by omega) (by decide)]
  exact Fx.cl_up (by decide) (by decide)
end Go.Proofs.Ytdmaaigchfgmdaa
