/- Called with any two numbers FixedShifts returns true. -/
import Derived.Test.YtofpiagiadgklaaShift
import Derived.WalkKit
import Derived.ProofKit
import Derived.OpenShut
import Derived.WalkSpells
import Derived.WalkLawsBesides
namespace Fx
theorem pow_split (k : Nat) (h : k ≤ 32) : (4294967296 : Int) = 2 ^ (32 - k) * 2 ^ k := by
  rw [← Int.pow_add, show 32 - k + k = 32 from by omega]; decide
theorem pow_le32 (k : Nat) (h : k ≤ 32) : (0 : Int) < 2 ^ k ∧ (2 : Int) ^ k ≤ 4294967296 := by
  have h1 : (0 : Int) < 2 ^ k := Int.pow_pos (by decide)
  have h2 : (0 : Int) < 2 ^ (32 - k) := Int.pow_pos (by decide)
  refine ⟨h1, ?_⟩
  rw [pow_split k h]
  have := Int.mul_le_mul_of_nonneg_right (show (1 : Int) ≤ 2 ^ (32 - k) by omega) (Int.le_of_lt h1)
  omega
theorem one_pow (n : Int) (h0 : -32 ≤ n) (h1 : n ≤ 0) : sh 4294967296 n = 2 ^ (32 - (-n).toNat) := by
  have hp : (0 : Int) < 2 ^ (-n).toNat := Int.pow_pos (by decide)
  by_cases h : n < 0
  · rw [sh_neg _ n h, show min (-n) 63 = -n from by omega, pow_split (-n).toNat (by omega), Int.mul_ediv_cancel _ (by omega)]
  · have e : n = 0 := by omega
    subst e
    decide
theorem one_up (n : Int) (h0 : 0 ≤ n) (h1 : n ≤ 30) : sh 4294967296 n = 4294967296 * 2 ^ n.toNat := by
  unfold sh
  rw [if_neg (by omega)]
  have hp : (0 : Int) < 2 ^ n.toNat := Int.pow_pos (by decide)
  have e : (4611686018427387904 : Int) = 4294967296 * 2 ^ (30 - n.toNat) * 2 ^ n.toNat := by
    rw [Int.mul_assoc, ← Int.pow_add, show 30 - n.toNat + n.toNat = 30 from by omega]; decide
  have hq : (0 : Int) < 2 ^ (30 - n.toNat) := Int.pow_pos (by decide)
  have h2 := Int.mul_le_mul_of_nonneg_right (show (4294967296 : Int) ≤ 4294967296 * 2 ^ (30 - n.toNat) by omega) (Int.le_of_lt hp)
  refine cl_in ?_ (by omega)
  have := Int.mul_nonneg (show (0 : Int) ≤ 4294967296 by decide) (Int.le_of_lt hp)
  omega
theorem one_bd (n : Int) : -4611686018427387904 ≤ sh 4294967296 n ∧ sh 4294967296 n ≤ 4611686018427387904 := by
  by_cases h : n < 0
  · have hp : (0 : Int) < 2 ^ (min (-n) 63).toNat := Int.pow_pos (by decide)
    rw [sh_neg _ n h]
    have h1 : (0 : Int) ≤ 4294967296 / 2 ^ (min (-n) 63).toNat := Int.ediv_nonneg (by decide) (Int.le_of_lt hp)
    have h2 : (4294967296 : Int) / 2 ^ (min (-n) 63).toNat ≤ 4294967296 := Int.ediv_le_self _ (by decide)
    omega
  · unfold sh
    rw [if_neg h]
    exact cl_bd (by decide) _
/-- a shift is a product with a power of two -/
theorem shift_mul (a n : Int) (h0 : -32 ≤ n) (h1 : n ≤ 30) (a0 : -4611686018427387904 ≤ a) (a1 : a ≤ 4611686018427387904) : cl 4611686018427387904 (a * sh 4294967296 n / 4294967296) = sh a n := by
  by_cases hn : n < 0
  · have hp : (0 : Int) < 2 ^ (-n).toNat := Int.pow_pos (by decide)
    have hq : (0 : Int) < 2 ^ (32 - (-n).toNat) := Int.pow_pos (by decide)
    rw [one_pow n h0 (by omega), sh_neg a n hn, show min (-n) 63 = -n from by omega]
    rw [show a * 2 ^ (32 - (-n).toNat) / 4294967296 = a / 2 ^ (-n).toNat from by
      rw [pow_split (-n).toNat (by omega), Int.mul_comm a, Int.mul_ediv_mul_of_pos _ _ hq]]
    have h2 : a / 2 ^ (-n).toNat < 4611686018427387905 := by
      refine Int.ediv_lt_of_lt_mul hp ?_
      have := Int.mul_le_mul_of_nonneg_left (show 1 ≤ (2 : Int) ^ (-n).toNat by omega) (show (0 : Int) ≤ 4611686018427387905 by decide)
      omega
    refine cl_in ?_ (by omega)
    refine Int.le_ediv_of_mul_le hp ?_
    have := Int.mul_le_mul_of_nonneg_left (show 1 ≤ (2 : Int) ^ (-n).toNat by omega) (show (0 : Int) ≤ 4611686018427387904 by decide)
    rw [Int.neg_mul]; omega
  · rw [one_up n (by omega) h1, show a * (4294967296 * 2 ^ n.toNat) = a * 2 ^ n.toNat * 4294967296 from by rw [Int.mul_comm 4294967296, Int.mul_assoc], Int.mul_ediv_cancel _ (by decide)]
    unfold sh
    rw [if_neg hn]
/-- down and up again -/
theorem down_up (a n : Int) (h0 : -32 ≤ n) (h1 : n ≤ 0) (a0 : -4611686018427387904 ≤ a) (a1 : a ≤ 4611686018427387904) :
    sh (sh a n) (-n) ≤ a ∧ a - sh (sh a n) (-n) < 2 ^ (-n).toNat ∧ -4611686018427387904 ≤ sh (sh a n) (-n) := by
  have hp : (0 : Int) < 2 ^ (-n).toNat := Int.pow_pos (by decide)
  have e : sh a n = a / 2 ^ (-n).toNat := by
    by_cases hn : n < 0
    · rw [sh_neg a n hn, show min (-n) 63 = -n from by omega]
    · have e : n = 0 := by omega
      subst e
      unfold sh
      rw [if_neg (by decide), cl_in (by simpa using a0) (by simpa using a1)]
      simp
  rw [e]
  have f1 : a / 2 ^ (-n).toNat * 2 ^ (-n).toNat ≤ a := Int.ediv_mul_le _ (by omega)
  have f2 := Int.lt_ediv_add_one_mul_self a hp
  rw [Int.add_mul] at f2
  have f3 : -4611686018427387904 ≤ a / 2 ^ (-n).toNat * 2 ^ (-n).toNat := by
    have hd := pow_le62 (-n).toNat (by omega)
    have g : -(4611686018427387904 / 2 ^ (-n).toNat) ≤ a / 2 ^ (-n).toNat := by
      refine Int.le_ediv_of_mul_le hp ?_
      rw [Int.neg_mul, hd]; exact a0
    have := Int.mul_le_mul_of_nonneg_right g (Int.le_of_lt hp)
    rw [Int.neg_mul, hd] at this
    exact this
  have e2 : sh (a / 2 ^ (-n).toNat) (-n) = a / 2 ^ (-n).toNat * 2 ^ (-n).toNat := by
    conv => lhs; unfold sh
    rw [if_neg (by omega)]
    exact cl_in f3 (by omega)
  rw [e2]
  exact ⟨f1, by omega, f3⟩
end Fx
namespace Go.Proofs.Ytofpiagiadgklaa
open Go.RowKit
set_option maxHeartbeats 1000000 in
theorem FixedShifts_walk (a0 : Int) (a1 : Int) (w0 : (Lit.int .i64 a0).wf = true) (w1 : (Lit.int .i64 a1).wf = true) (w : World) :
    Calls Try.prog 3 #[.int .i64 a0, .int .i64 a1] w fun e w' => e = .returned (.bool true) ∧ Grown w w' := by
  obtain ⟨a00, a01⟩ := bounds_i64 w0
  obtain ⟨a10, a11⟩ := bounds_i64 w1
  clear w0 w1
  by_cases c1 : a1 < -32
  · go_enter Try.func3, Try.ntmps3
    go_wp2
    go_ret
    exact ⟨rfl, Grown.refl _⟩
  by_cases c2 : 30 < a1
  · go_enter Try.func3, Try.ntmps3
    go_wp2
    go_ret
    exact ⟨rfl, Grown.refl _⟩
  by_cases c3 : 4611686018427387904 < a0
  · go_enter Try.func3, Try.ntmps3
    go_wp2
    go_ret
    exact ⟨rfl, Grown.refl _⟩
  by_cases c4 : a0 < -4611686018427387904
  · go_enter Try.func3, Try.ntmps3
    go_wp2
    go_ret
    exact ⟨rfl, Grown.refl _⟩
  have hmul := Fx.shift_mul a0 a1 (by omega) (by omega) (by omega) (by omega)
  obtain ⟨p0, p1⟩ := Fx.one_bd a1
  obtain ⟨P, hP⟩ : ∃ P, P = Fx.sh 4294967296 a1 := ⟨_, rfl⟩
  obtain ⟨X, hX⟩ : ∃ X, X = Fx.sh a0 a1 := ⟨_, rfl⟩
  rw [← hP] at p0 p1 hmul
  rw [← hX] at hmul
  have hP' : Hid (P = Fx.sh 4294967296 a1) := hP
  have hX' : Hid (X = Fx.sh a0 a1) := hX
  have hmul' : Hid (Fx.cl 4611686018427387904 (a0 * P / 4294967296) = X) := hmul
  clear hP hX hmul
  go_enter Try.func3, Try.ntmps3
  go_wp2_with fail
  refine (shift_any a0 a1 _ a10 a11).mono ?_
  rintro e v3 ⟨rfl, hw⟩
  subst hw
  rw [← hX'.out]
  go_wp2_with fail
  refine (power_any a1 _ a10 a11).mono ?_
  rintro e v3 ⟨rfl, hw⟩
  subst hw
  rw [← hP'.out]
  go_wp2_with fail
  refine (mul_any a0 P _ a00 a01 (by omega) (by omega)).mono ?_
  rintro e v3 ⟨rfl, k2, hw⟩
  subst hw
  rw [hmul'.out]
  by_cases c5 : 0 < a1
  · go_wp2
    go_ret
    exact ⟨rfl, grown_drewN _ _⟩
  obtain ⟨d1, d2, d3⟩ := Fx.down_up a0 a1 (by omega) (by omega) (by omega) (by omega)
  rw [← hX'.out] at d1 d2 d3
  obtain ⟨B, hB⟩ : ∃ B, B = Fx.sh X (-a1) := ⟨_, rfl⟩
  rw [← hB] at d1 d2 d3
  have hB' : Hid (B = Fx.sh X (-a1)) := hB
  have d2' : Hid (a0 - B < 2 ^ (-a1).toNat) := d2
  clear hB d2
  go_wp2_with fail
  refine (shift_any a0 a1 _ a10 a11).mono ?_
  rintro e v3 ⟨rfl, hw⟩
  subst hw
  rw [← hX'.out]
  go_wp2_with fail
  refine (shift_any X (-a1) _ (by omega) (by omega)).mono ?_
  rintro e v3 ⟨rfl, hw⟩
  subst hw
  rw [← hB'.out]
  go_wp2_with fail
  refine (sub_any a0 B _ a00 a01 (by omega) (by omega)).mono ?_
  rintro e v3 ⟨rfl, hw⟩
  subst hw
  go_wp2
  go_ret
  refine ⟨ret_bool ?_, grown_drewN _ _⟩
  have hp := Fx.pow_le32 (-a1).toNat (by omega)
  have hd := d2'.out
  rw [Fx.cl_in (by omega) (by omega), show wrap64 (2 ^ (-a1).toNat) = 2 ^ (-a1).toNat from by rw [wrap64]; omega]
  exact decide_eq_true hd
end Go.Proofs.Ytofpiagiadgklaa
