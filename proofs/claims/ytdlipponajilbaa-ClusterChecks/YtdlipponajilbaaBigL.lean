/- What Mul, Scale, Shift, Drift, Rate and Cut of the reference return. -/
import Derived.Test.YtdlipponajilbaaBigT
import Derived.Test.YtdlipponajilbaaAr
import Derived.WalkKit
import Derived.WalkSpells
import Derived.WalkLawsBesides
import Derived.Handy
namespace Fx
theorem half_bd (a : Int) (k : Nat) (h0 : -9223372036854775808 ≤ a) (h1 : a ≤ 9223372036854775807) (hk : 1 ≤ k) : -4611686018427387904 ≤ a / 2 ^ k ∧ a / 2 ^ k ≤ 4611686018427387904 := by
  obtain ⟨k, rfl⟩ : ∃ j, k = j + 1 := ⟨k - 1, by omega⟩
  rw [Int.pow_succ, Int.mul_comm, ← Int.ediv_ediv_of_nonneg (by decide)]
  have hp : (0 : Int) < 2 ^ k := Int.pow_pos (by decide)
  have h2 : -4611686018427387904 ≤ a / 2 ∧ a / 2 ≤ 4611686018427387903 := by omega
  generalize a / 2 = b at *
  constructor
  · refine Int.le_ediv_of_mul_le hp ?_
    have := Int.mul_le_mul_of_nonneg_left (show 1 ≤ (2 : Int) ^ k by omega) (show (0 : Int) ≤ 4611686018427387904 by decide)
    rw [Int.neg_mul]; omega
  · have h3 : b / 2 ^ k < 4611686018427387905 := by
      refine Int.ediv_lt_of_lt_mul hp ?_
      have := Int.mul_le_mul_of_nonneg_left (show 1 ≤ (2 : Int) ^ k by omega) (show (0 : Int) ≤ 4611686018427387905 by decide)
      omega
    omega
theorem far_down (a : Int) (k : Nat) (h0 : -9223372036854775808 ≤ a) (h1 : a ≤ 9223372036854775807) (hk : 63 ≤ k) : a / 2 ^ k = if a < 0 then -1 else 0 := by
  have hp := big_pow k hk
  split
  · rw [Int.ediv_eq_iff_of_pos (by omega)]; omega
  · exact Int.ediv_eq_zero_of_lt (by omega) (by omega)
theorem sh_up_eq (a n : Int) (h : 0 ≤ n) : cl 4611686018427387904 (a * 2 ^ (min n 200).toNat) = sh a n := by
  by_cases hn : n ≤ 200
  · rw [show min n 200 = n from by omega]
    unfold sh
    rw [if_neg (by omega)]
  · rw [show min n 200 = 200 from by omega]
    have hp := big_pow (200 : Int).toNat (by decide)
    have hp' : (0 : Int) ≤ 2 ^ (200 : Int).toNat := by omega
    rcases Int.lt_trichotomy a 0 with ha | ha | ha
    · rw [sh_hi_neg a n (by omega) ha]
      refine cl_dn (by decide) ?_
      have := Int.mul_le_mul_of_nonneg_right (show a ≤ -1 by omega) hp'
      omega
    · subst ha
      rw [sh_hi_zero n (by omega), Int.zero_mul]
      exact cl_in (by decide) (by decide)
    · rw [sh_hi_pos a n (by omega) ha]
      refine cl_up (by decide) ?_
      have := Int.mul_le_mul_of_nonneg_right (show 1 ≤ a from ha) hp'
      omega
theorem sh_down_eq (a n m : Int) (h0 : -9223372036854775808 ≤ a) (h1 : a ≤ 9223372036854775807) (h : n < 0) (hm : m = max n (-200)) : cl 4611686018427387904 (a / 2 ^ (-m).toNat) = sh a n := by
  obtain ⟨b1, b2⟩ := half_bd a (-m).toNat h0 h1 (by omega)
  rw [cl_in b1 b2, sh_neg a n h]
  by_cases hn : -63 ≤ n
  · rw [show min (-n) 63 = -n from by omega, show m = n from by omega]
  · rw [show min (-n) 63 = 63 from by omega, far_down a _ h0 h1 (by omega), far_down a _ h0 h1 (by decide)]
end Fx
namespace Go.Proofs.Ytdlipponajilbaa
open Go.RowKit
theorem Sm.two {m k : Nat} (h : m < 16 * k) : Sm k ((2 : Int) ^ m) := by
  unfold Sm
  rw [Int.natAbs_pow, show (65536 : Nat) = 2 ^ 16 from by decide, ← Nat.pow_mul]
  exact Nat.pow_lt_pow_right (by decide) h
set_option maxRecDepth 20000 in
set_option maxHeartbeats 1000000 in
theorem rscale_pos (a n d : Int) (w : World) (ha0 : -9223372036854775808 ≤ a) (ha1 : a ≤ 9223372036854775807) (hn0 : -9223372036854775808 ≤ n) (hn1 : n ≤ 9223372036854775807) (hd0 : -9223372036854775808 ≤ d) (hd1 : d ≤ 9223372036854775807) (hp : 0 < d) :
    Calls Try.prog 29 #[.int .i64 a, .int .i64 n, .int .i64 d] w fun e w' => e = .returned (.int .i64 (Fx.cl 4611686018427387904 (a * n / d))) ∧ Below w.heap.size w w' := by
  go_enter Try.func29, Try.ntmps29
  go_wp2_with fail
  refine (s_any a _ ha0 ha1).mono ?_
  rintro e w1 ⟨v1, rfl, i1, k1⟩
  have I1 : Hid (IsBig w.heap.size w1 v1 (a)) := i1
  have K1 : Hid (Below w.heap.size w w1) := k1
  clear i1 k1
  go_wp2_with fail
  refine (of_any n _ hn0 hn1).mono ?_
  rintro e w2 ⟨v2, rfl, i2, k2⟩
  have I2 : Hid (IsBig w1.heap.size w2 v2 (n)) := i2
  have I1_2 : Hid (IsBig w.heap.size w2 v1 (a)) := I1.out.below k2 (Nat.le_refl _)
  have K2 : Hid (Below w.heap.size w w2) := Below.then K1.out k2
  clear i2 k2 I1 K1
  go_wp2_with fail
  refine (product_big I1_2.out I2.out (Sm.word ha0 ha1) (Sm.word hn0 hn1) (by decide)).mono ?_
  rintro e w3 ⟨v3, rfl, i3, k3⟩
  have I3 : Hid (IsBig w2.heap.size w3 v3 (a * n)) := i3
  have I1_2_3 : Hid (IsBig w.heap.size w3 v1 (a)) := I1_2.out.below k3 (Nat.le_refl _)
  have I2_3 : Hid (IsBig w1.heap.size w3 v2 (n)) := I2.out.below k3 (Nat.le_refl _)
  have K3 : Hid (Below w.heap.size w w3) := Below.then K2.out k3
  clear i3 k3 I1_2 I2 K2
  go_wp2_with fail
  refine (of_any d _ hd0 hd1).mono ?_
  rintro e w4 ⟨v4, rfl, i4, k4⟩
  have I4 : Hid (IsBig w3.heap.size w4 v4 (d)) := i4
  have I1_2_3_4 : Hid (IsBig w.heap.size w4 v1 (a)) := I1_2_3.out.below k4 (Nat.le_refl _)
  have I2_3_4 : Hid (IsBig w1.heap.size w4 v2 (n)) := I2_3.out.below k4 (Nat.le_refl _)
  have I3_4 : Hid (IsBig w2.heap.size w4 v3 (a * n)) := I3.out.below k4 (Nat.le_refl _)
  have K4 : Hid (Below w.heap.size w w4) := Below.then K3.out k4
  clear i4 k4 I1_2_3 I2_3 I3 K3
  go_wp2_with fail
  refine (down_big I3_4.out I4.out (Sm.mono (Sm.mul (Sm.word ha0 ha1) (Sm.word hn0 hn1)) (by decide : _ ≤ 100)) (Sm.mono (Sm.word hd0 hd1) (by decide : _ ≤ 100)) (by decide) hp).mono ?_
  rintro e w5 ⟨v5, rfl, i5, k5⟩
  have I5 : Hid (IsBig w4.heap.size w5 v5 (a * n / d)) := i5
  have I1_2_3_4_5 : Hid (IsBig w.heap.size w5 v1 (a)) := I1_2_3_4.out.below k5 (Nat.le_refl _)
  have I2_3_4_5 : Hid (IsBig w1.heap.size w5 v2 (n)) := I2_3_4.out.below k5 (Nat.le_refl _)
  have I3_4_5 : Hid (IsBig w2.heap.size w5 v3 (a * n)) := I3_4.out.below k5 (Nat.le_refl _)
  have I4_5 : Hid (IsBig w3.heap.size w5 v4 (d)) := I4.out.below k5 (Nat.le_refl _)
  have K5 : Hid (Below w.heap.size w w5) := Below.then K4.out k5
  clear i5 k5 I1_2_3_4 I2_3_4 I3_4 I4 K4
  go_wp2_with fail
  refine (span_big I5.out (Sm.div (Sm.mul (Sm.word ha0 ha1) (Sm.word hn0 hn1)) _) (by decide)).mono ?_
  rintro e w6 ⟨rfl, k6⟩
  have K6 : Hid (Below w.heap.size w w6) := Below.then K5.out k6
  clear k6 K5
  go_wp2
  go_ret
  exact ⟨rfl, K6.out⟩
set_option maxRecDepth 20000 in
set_option maxHeartbeats 400000 in
theorem rscale_any (a n d : Int) (w : World) (ha0 : -9223372036854775808 ≤ a) (ha1 : a ≤ 9223372036854775807) (hn0 : -9223372036854775808 ≤ n) (hn1 : n ≤ 9223372036854775807) (hd0 : -9223372036854775808 ≤ d) (hd1 : d ≤ 9223372036854775807) :
    Calls Try.prog 29 #[.int .i64 a, .int .i64 n, .int .i64 d] w fun e w' => e = .returned (.int .i64 (if d ≤ 0 then 0 else Fx.cl 4611686018427387904 (a * n / d))) ∧ Below w.heap.size w w' := by
  by_cases h : d ≤ 0
  · rw [if_pos h]
    go_enter Try.func29, Try.ntmps29
    go_wp2
    go_ret
    exact ⟨rfl, Below.refl _ _⟩
  · rw [if_neg h]
    exact rscale_pos a n d w ha0 ha1 hn0 hn1 hd0 hd1 (by omega)
set_option maxRecDepth 20000 in
set_option maxHeartbeats 1000000 in
theorem rshift_up1 (a n : Int) (w : World) (ha0 : -9223372036854775808 ≤ a) (ha1 : a ≤ 9223372036854775807) (hn0 : -9223372036854775808 ≤ n) (hn1 : n ≤ 9223372036854775807) (hp : 0 ≤ n) (hq : n ≤ 200) :
    Calls Try.prog 48 #[.int .i64 a, .int .i64 n] w fun e w' => e = .returned (.int .i64 (Fx.cl 4611686018427387904 (a * 2 ^ n.toNat))) ∧ Below w.heap.size w w' := by
  go_enter Try.func48, Try.ntmps48
  go_wp2_with fail
  refine (s_any a _ ha0 ha1).mono ?_
  rintro e w1 ⟨v1, rfl, i1, k1⟩
  have I1 : Hid (IsBig w.heap.size w1 v1 (a)) := i1
  have K1 : Hid (Below w.heap.size w w1) := k1
  clear i1 k1
  go_wp2_with fail
  refine (two_any n _ (by omega) (by omega)).mono ?_
  rintro e w2 ⟨v2, rfl, i2, k2⟩
  have I2 : Hid (IsBig w1.heap.size w2 v2 (2 ^ n.toNat)) := i2
  have I1_2 : Hid (IsBig w.heap.size w2 v1 (a)) := I1.out.below k2 (Nat.le_refl _)
  have K2 : Hid (Below w.heap.size w w2) := Below.then K1.out k2
  clear i2 k2 I1 K1
  go_wp2_with fail
  refine (product_big I1_2.out I2.out (Sm.mono (Sm.word ha0 ha1) (by decide : 4 ≤ 20)) (Sm.two (by omega : n.toNat < 16 * 20)) (by decide)).mono ?_
  rintro e w3 ⟨v3, rfl, i3, k3⟩
  have I3 : Hid (IsBig w2.heap.size w3 v3 (a * 2 ^ n.toNat)) := i3
  have I1_2_3 : Hid (IsBig w.heap.size w3 v1 (a)) := I1_2.out.below k3 (Nat.le_refl _)
  have I2_3 : Hid (IsBig w1.heap.size w3 v2 (2 ^ n.toNat)) := I2.out.below k3 (Nat.le_refl _)
  have K3 : Hid (Below w.heap.size w w3) := Below.then K2.out k3
  clear i3 k3 I1_2 I2 K2
  go_wp2_with fail
  refine (span_big I3.out (Sm.mul (Sm.mono (Sm.word ha0 ha1) (by decide : 4 ≤ 20)) (Sm.two (by omega : n.toNat < 16 * 20))) (by decide)).mono ?_
  rintro e w4 ⟨rfl, k4⟩
  have K4 : Hid (Below w.heap.size w w4) := Below.then K3.out k4
  clear k4 K3
  go_wp2
  go_ret
  exact ⟨rfl, K4.out⟩
set_option maxRecDepth 20000 in
set_option maxHeartbeats 1000000 in
theorem rshift_up2 (a n : Int) (w : World) (ha0 : -9223372036854775808 ≤ a) (ha1 : a ≤ 9223372036854775807) (hn0 : -9223372036854775808 ≤ n) (hn1 : n ≤ 9223372036854775807) (hq : 200 < n) :
    Calls Try.prog 48 #[.int .i64 a, .int .i64 n] w fun e w' => e = .returned (.int .i64 (Fx.cl 4611686018427387904 (a * 2 ^ (200 : Int).toNat))) ∧ Below w.heap.size w w' := by
  go_enter Try.func48, Try.ntmps48
  go_wp2_with fail
  refine (s_any a _ ha0 ha1).mono ?_
  rintro e w1 ⟨v1, rfl, i1, k1⟩
  have I1 : Hid (IsBig w.heap.size w1 v1 (a)) := i1
  have K1 : Hid (Below w.heap.size w w1) := k1
  clear i1 k1
  go_wp2_with fail
  refine (two_any 200 _ (by decide) (by decide)).mono ?_
  rintro e w2 ⟨v2, rfl, i2, k2⟩
  have I2 : Hid (IsBig w1.heap.size w2 v2 (2 ^ (200 : Int).toNat)) := i2
  have I1_2 : Hid (IsBig w.heap.size w2 v1 (a)) := I1.out.below k2 (Nat.le_refl _)
  have K2 : Hid (Below w.heap.size w w2) := Below.then K1.out k2
  clear i2 k2 I1 K1
  go_wp2_with fail
  refine (product_big I1_2.out I2.out (Sm.mono (Sm.word ha0 ha1) (by decide : 4 ≤ 20)) (Sm.two (by decide : (200 : Int).toNat < 16 * 20)) (by decide)).mono ?_
  rintro e w3 ⟨v3, rfl, i3, k3⟩
  have I3 : Hid (IsBig w2.heap.size w3 v3 (a * 2 ^ (200 : Int).toNat)) := i3
  have I1_2_3 : Hid (IsBig w.heap.size w3 v1 (a)) := I1_2.out.below k3 (Nat.le_refl _)
  have I2_3 : Hid (IsBig w1.heap.size w3 v2 (2 ^ (200 : Int).toNat)) := I2.out.below k3 (Nat.le_refl _)
  have K3 : Hid (Below w.heap.size w w3) := Below.then K2.out k3
  clear i3 k3 I1_2 I2 K2
  go_wp2_with fail
  refine (span_big I3.out (Sm.mul (Sm.mono (Sm.word ha0 ha1) (by decide : 4 ≤ 20)) (Sm.two (by decide : (200 : Int).toNat < 16 * 20))) (by decide)).mono ?_
  rintro e w4 ⟨rfl, k4⟩
  have K4 : Hid (Below w.heap.size w w4) := Below.then K3.out k4
  clear k4 K3
  go_wp2
  go_ret
  exact ⟨rfl, K4.out⟩
set_option maxRecDepth 20000 in
set_option maxHeartbeats 1000000 in
theorem rshift_dn1 (a n : Int) (w : World) (ha0 : -9223372036854775808 ≤ a) (ha1 : a ≤ 9223372036854775807) (hn0 : -9223372036854775808 ≤ n) (hn1 : n ≤ 9223372036854775807) (hp : n < 0) (hq : -200 ≤ n) :
    Calls Try.prog 48 #[.int .i64 a, .int .i64 n] w fun e w' => e = .returned (.int .i64 (Fx.cl 4611686018427387904 (a / 2 ^ (-n).toNat))) ∧ Below w.heap.size w w' := by
  go_enter Try.func48, Try.ntmps48
  go_wp2_with fail
  refine (s_any a _ ha0 ha1).mono ?_
  rintro e w1 ⟨v1, rfl, i1, k1⟩
  have I1 : Hid (IsBig w.heap.size w1 v1 (a)) := i1
  have K1 : Hid (Below w.heap.size w w1) := k1
  clear i1 k1
  go_wp2_with fail
  refine (two_any (-n) _ (by omega) (by omega)).mono ?_
  rintro e w2 ⟨v2, rfl, i2, k2⟩
  have I2 : Hid (IsBig w1.heap.size w2 v2 (2 ^ (-n).toNat)) := i2
  have I1_2 : Hid (IsBig w.heap.size w2 v1 (a)) := I1.out.below k2 (Nat.le_refl _)
  have K2 : Hid (Below w.heap.size w w2) := Below.then K1.out k2
  clear i2 k2 I1 K1
  go_wp2_with fail
  refine (down_big I1_2.out I2.out (Sm.mono (Sm.word ha0 ha1) (by decide : 4 ≤ 20)) (Sm.two (by omega : (-n).toNat < 16 * 20)) (by decide) (Int.pow_pos (by decide))).mono ?_
  rintro e w3 ⟨v3, rfl, i3, k3⟩
  have I3 : Hid (IsBig w2.heap.size w3 v3 (a / 2 ^ (-n).toNat)) := i3
  have I1_2_3 : Hid (IsBig w.heap.size w3 v1 (a)) := I1_2.out.below k3 (Nat.le_refl _)
  have I2_3 : Hid (IsBig w1.heap.size w3 v2 (2 ^ (-n).toNat)) := I2.out.below k3 (Nat.le_refl _)
  have K3 : Hid (Below w.heap.size w w3) := Below.then K2.out k3
  clear i3 k3 I1_2 I2 K2
  go_wp2_with fail
  refine (span_big I3.out (Sm.div (Sm.mono (Sm.word ha0 ha1) (by decide : 4 ≤ 20)) _) (by decide)).mono ?_
  rintro e w4 ⟨rfl, k4⟩
  have K4 : Hid (Below w.heap.size w w4) := Below.then K3.out k4
  clear k4 K3
  go_wp2
  go_ret
  exact ⟨rfl, K4.out⟩
set_option maxRecDepth 20000 in
set_option maxHeartbeats 1000000 in
theorem rshift_dn2 (a n : Int) (w : World) (ha0 : -9223372036854775808 ≤ a) (ha1 : a ≤ 9223372036854775807) (hn0 : -9223372036854775808 ≤ n) (hn1 : n ≤ 9223372036854775807) (hq : n < -200) :
    Calls Try.prog 48 #[.int .i64 a, .int .i64 n] w fun e w' => e = .returned (.int .i64 (Fx.cl 4611686018427387904 (a / 2 ^ (200 : Int).toNat))) ∧ Below w.heap.size w w' := by
  go_enter Try.func48, Try.ntmps48
  go_wp2_with fail
  refine (s_any a _ ha0 ha1).mono ?_
  rintro e w1 ⟨v1, rfl, i1, k1⟩
  have I1 : Hid (IsBig w.heap.size w1 v1 (a)) := i1
  have K1 : Hid (Below w.heap.size w w1) := k1
  clear i1 k1
  go_wp2_with fail
  refine (two_any 200 _ (by decide) (by decide)).mono ?_
  rintro e w2 ⟨v2, rfl, i2, k2⟩
  have I2 : Hid (IsBig w1.heap.size w2 v2 (2 ^ (200 : Int).toNat)) := i2
  have I1_2 : Hid (IsBig w.heap.size w2 v1 (a)) := I1.out.below k2 (Nat.le_refl _)
  have K2 : Hid (Below w.heap.size w w2) := Below.then K1.out k2
  clear i2 k2 I1 K1
  go_wp2_with fail
  refine (down_big I1_2.out I2.out (Sm.mono (Sm.word ha0 ha1) (by decide : 4 ≤ 20)) (Sm.two (by decide : (200 : Int).toNat < 16 * 20)) (by decide) (Int.pow_pos (by decide))).mono ?_
  rintro e w3 ⟨v3, rfl, i3, k3⟩
  have I3 : Hid (IsBig w2.heap.size w3 v3 (a / 2 ^ (200 : Int).toNat)) := i3
  have I1_2_3 : Hid (IsBig w.heap.size w3 v1 (a)) := I1_2.out.below k3 (Nat.le_refl _)
  have I2_3 : Hid (IsBig w1.heap.size w3 v2 (2 ^ (200 : Int).toNat)) := I2.out.below k3 (Nat.le_refl _)
  have K3 : Hid (Below w.heap.size w w3) := Below.then K2.out k3
  clear i3 k3 I1_2 I2 K2
  go_wp2_with fail
  refine (span_big I3.out (Sm.div (Sm.mono (Sm.word ha0 ha1) (by decide : 4 ≤ 20)) _) (by decide)).mono ?_
  rintro e w4 ⟨rfl, k4⟩
  have K4 : Hid (Below w.heap.size w w4) := Below.then K3.out k4
  clear k4 K3
  go_wp2
  go_ret
  exact ⟨rfl, K4.out⟩
theorem rshift_any (a n : Int) (w : World) (ha0 : -9223372036854775808 ≤ a) (ha1 : a ≤ 9223372036854775807) (hn0 : -9223372036854775808 ≤ n) (hn1 : n ≤ 9223372036854775807) :
    Calls Try.prog 48 #[.int .i64 a, .int .i64 n] w fun e w' => e = .returned (.int .i64 (Fx.sh a n)) ∧ Below w.heap.size w w' := by
  by_cases h : n < 0
  · by_cases h2 : -200 ≤ n
    · have := rshift_dn1 a n w ha0 ha1 hn0 hn1 h h2
      rw [Fx.sh_down_eq a n n ha0 ha1 h (by omega)] at this
      exact this
    · have := rshift_dn2 a n w ha0 ha1 hn0 hn1 (by omega)
      rw [show (200 : Int) = -(-200) from by decide, Fx.sh_down_eq a n (-200) ha0 ha1 h (by omega)] at this
      exact this
  · rw [← Fx.sh_up_eq a n (by omega)]
    by_cases h2 : n ≤ 200
    · have := rshift_up1 a n w ha0 ha1 hn0 hn1 (by omega) h2
      rw [show min n 200 = n from by omega]
      exact this
    · have := rshift_up2 a n w ha0 ha1 hn0 hn1 (by omega)
      rw [show min n 200 = 200 from by omega]
      exact this
theorem pw_ge (j k : Nat) (h : j ≤ k) : (2 : Int) ^ j ≤ 2 ^ k := by
  have h1 : (2 : Nat) ^ j ≤ 2 ^ k := Nat.pow_le_pow_right (by decide) h
  have h2 : ((2 ^ j : Nat) : Int) ≤ ((2 ^ k : Nat) : Int) := Int.ofNat_le.2 h1
  rw [Int.natCast_pow, Int.natCast_pow] at h2
  exact h2
theorem power_low (n : Int) (h : n < -32) : Fx.sh 4294967296 n = 0 := by
  rw [Fx.sh_neg _ n (by omega)]
  have := pw_ge 33 (min (-n) 63).toNat (by omega)
  exact Int.ediv_eq_zero_of_lt (by decide) (by rw [show (2 : Int) ^ 33 = 8589934592 from by decide] at this; omega)
theorem power_mid (n : Int) (h0 : -32 ≤ n) : Fx.cl 4611686018427387904 (2 ^ (32 + n).toNat) = Fx.sh 4294967296 n := by
  by_cases hn : n < 0
  · have hp : (0 : Int) < 2 ^ (-n).toNat := Int.pow_pos (by decide)
    have e : (4294967296 : Int) = 2 ^ (32 + n).toNat * 2 ^ (-n).toNat := by
      rw [← Int.pow_add, show (32 + n).toNat + (-n).toNat = 32 from by omega]; decide
    have h1 := pw_ge (32 + n).toNat 32 (by omega)
    have h2 : (0 : Int) < 2 ^ (32 + n).toNat := Int.pow_pos (by decide)
    rw [show (2 : Int) ^ 32 = 4294967296 from by decide] at h1
    rw [Fx.sh_neg _ n hn, show min (-n) 63 = -n from by omega, Fx.cl_in (by omega) (by omega)]
    conv => rhs; rw [e]
    rw [Int.mul_ediv_cancel _ (by omega)]
  · unfold Fx.sh
    rw [if_neg hn, show (4294967296 : Int) = 2 ^ 32 from by decide, ← Int.pow_add, show (32 + n).toNat = 32 + n.toNat from by omega]
theorem power_high (n : Int) (h0 : 100 < n) : Fx.cl 4611686018427387904 (2 ^ (132 : Int).toNat) = Fx.sh 4294967296 n := by
  rw [Fx.sh_hi_pos _ n (by omega) (by decide)]
  exact Fx.cl_up (by decide) (by decide)
end Go.Proofs.Ytdlipponajilbaa
