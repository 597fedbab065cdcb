/- Called with any two numbers FixedBack returns true. -/
import Derived.Test.YtofpiagiadgklabRootF
import Derived.WalkKit
import Derived.ProofKit
import Derived.OpenShut
import Derived.WalkSpells
import Derived.WalkLawsBesides
namespace Fx
theorem back_root (a F m : Nat) (hm : m = a * a / 4294967296) (h1 : F * F ≤ m * 4294967296) (h2 : m * 4294967296 < (F + 1) * (F + 1)) : F ≤ a ∧ a ≤ F + 65537 := by
  have e1 : m * 4294967296 ≤ a * a := by rw [hm]; exact Nat.div_mul_le_self _ _
  have e2 : a * a < m * 4294967296 + 4294967296 := by rw [hm]; omega
  refine ⟨Nat.le_of_not_lt fun x => ?_, Nat.le_of_not_lt fun x => ?_⟩
  · have := Nat.mul_lt_mul'' x x
    omega
  · obtain ⟨b, rfl⟩ : ∃ b, a = b + 65537 := ⟨a - 65537, by omega⟩
    have h3 := Nat.mul_le_mul (show F + 1 ≤ b by omega) (show F + 1 ≤ b by omega)
    have h4 : (b + 65537) * (b + 65537) = b * b + 131074 * b + 4295098369 := by grind
    omega
theorem back_drift (a s f : Int) (ha : 0 ≤ a) (hs : 0 < s) (hf : f = a * 281474976710656 / s) : f * s / 281474976710656 ≤ a ∧ a - 1 - s / 281474976710656 ≤ f * s / 281474976710656 ∧ 0 ≤ f * s / 281474976710656 := by
  have h1 : f * s ≤ a * 281474976710656 := by rw [hf]; exact Int.ediv_mul_le _ (by omega)
  have h2 : a * 281474976710656 < f * s + s := by
    have := Int.lt_ediv_add_one_mul_self (a * 281474976710656) hs
    rw [← hf, Int.add_mul] at this; omega
  have h3 : 0 ≤ f := by rw [hf]; exact Int.ediv_nonneg (by omega) (by omega)
  have h4 : 0 ≤ f * s := Int.mul_nonneg h3 (by omega)
  generalize f * s = p at *
  clear hf
  omega
end Fx
namespace Go.Proofs.Ytofpiagiadgklab
open Go.RowKit
theorem back_rootc (a m : Int) (ha : 0 ≤ a) (hm : m = a * a / 4294967296) (hmb : m ≤ 1152921504606846976) (w : World) :
    Calls Try.prog 12 #[.int .i64 m] w fun e w' => ∃ r : Int, e = .returned (.int .i64 r) ∧ r ≤ a ∧ a - 65537 ≤ r ∧ 0 ≤ r ∧ Grown w w' := by
  obtain ⟨A, rfl⟩ := Int.eq_ofNat_of_zero_le ha
  rw [← Int.natCast_mul] at hm
  have hm2 : m = ((A * A / 4294967296 : Nat) : Int) := hm
  by_cases h0 : m ≤ 0
  · refine (Root_zero m w h0).mono ?_
    rintro e w' ⟨rfl, rfl⟩
    refine ⟨0, rfl, ha, ?_, by decide, Grown.refl _⟩
    have h1 : A * A < 4294967296 := by omega
    have h2 : A < 65537 := Nat.lt_of_not_le fun x => by have := Nat.mul_le_mul x x; omega
    omega
  · refine (Root_pos m (A * A / 4294967296) hm2 w (by omega) (by omega)).mono ?_
    rintro e w' ⟨F, rfl, f1, f2, f3, hg⟩
    obtain ⟨g1, g2⟩ := Fx.back_root A F _ rfl f1 f2
    exact ⟨F, rfl, by omega, by omega, by omega, hg⟩
set_option maxHeartbeats 1000000 in
theorem FixedBack_walk (a0 : Int) (a1 : Int) (w0 : (Lit.int .i64 a0).wf = true) (w1 : (Lit.int .i64 a1).wf = true) (w : World) :
    Calls Try.prog 5 #[.int .i64 a0, .int .i64 a1] w fun e w' => e = .returned (.bool true) ∧ Grown w w' := by
  obtain ⟨a00, a01⟩ := bounds_i64 w0
  obtain ⟨a10, a11⟩ := bounds_i64 w1
  clear w0 w1
  by_cases c1 : a0 < 0
  · go_enter Try.func5, Try.ntmps5
    go_wp2
    go_ret
    exact ⟨rfl, Grown.refl _⟩
  by_cases c2 : 70368744177664 < a0
  · go_enter Try.func5, Try.ntmps5
    go_wp2
    go_ret
    exact ⟨rfl, Grown.refl _⟩
  by_cases c3 : a1 ≤ 0
  · go_enter Try.func5, Try.ntmps5
    go_wp2
    go_ret
    exact ⟨rfl, Grown.refl _⟩
  by_cases c4 : 4611686018427387904 < a1
  · go_enter Try.func5, Try.ntmps5
    go_wp2
    go_ret
    exact ⟨rfl, Grown.refl _⟩
  have hsq : 0 ≤ a0 * a0 ∧ a0 * a0 ≤ 4951760157141521099596496896 := ⟨Int.mul_nonneg (by omega) (by omega), by
    have := Int.mul_le_mul (show a0 ≤ 70368744177664 by omega) (show a0 ≤ 70368744177664 by omega) (by omega) (by omega); omega⟩
  obtain ⟨m, hm⟩ : ∃ m, m = a0 * a0 / 4294967296 := ⟨_, rfl⟩
  have hmb : 0 ≤ m ∧ m ≤ 1152921504606846976 := by omega
  have em : Fx.cl 4611686018427387904 (a0 * a0 / 4294967296) = m := by rw [← hm]; exact Fx.cl_in (by omega) (by omega)
  have hm' : Hid (m = a0 * a0 / 4294967296) := hm
  obtain ⟨f, hf⟩ : ∃ f, f = Fx.cl 140737488355 (a0 * 281474976710656 / a1) := ⟨_, rfl⟩
  have hfb : 0 ≤ f ∧ f ≤ 140737488355 := by
    have : 0 ≤ a0 * 281474976710656 / a1 := Int.ediv_nonneg (by omega) (by omega)
    rw [hf]; unfold Fx.cl; omega
  have hf' : Hid (f = Fx.cl 140737488355 (a0 * 281474976710656 / a1)) := hf
  obtain ⟨d, hd⟩ : ∃ d, d = Fx.cl 4611686018427387904 (f * a1 / 281474976710656) := ⟨_, rfl⟩
  have hd' : Hid (d = Fx.cl 4611686018427387904 (f * a1 / 281474976710656)) := hd
  have hdd : Hid ((f == 140737488355) = false → d ≤ a0 ∧ a0 - 1 - a1 / 281474976710656 ≤ d) := fun hne => by
    have h1 : 0 ≤ a0 * 281474976710656 / a1 := Int.ediv_nonneg (by omega) (by omega)
    have h2 : f ≠ 140737488355 := by simpa using hne
    have h3 : f = a0 * 281474976710656 / a1 := by
      rw [hf] at h2 ⊢
      generalize a0 * 281474976710656 / a1 = x at *
      unfold Fx.cl at *; omega
    obtain ⟨g1, g2, g3⟩ := Fx.back_drift a0 a1 f (by omega) (by omega) h3
    rw [hd, Fx.cl_in (by omega) (by omega)]
    exact ⟨g1, g2⟩
  clear hm hf hd hsq
  go_enter Try.func5, Try.ntmps5
  go_wp2_with fail
  refine (mul_any a0 a0 _ a00 a01 a00 a01).mono ?_
  rintro e v1 ⟨rfl, n, rfl⟩
  rw [em]
  go_wp2_with fail
  refine (back_rootc a0 m (by omega) hm'.out (by omega) _).mono ?_
  rintro e v2 ⟨r, rfl, r1, r2, r3, hg⟩
  have hg' : Hid (Grown w v2) := grown_trans (grown_drewN w n) hg
  clear hg em
  go_wp2_with fail
  refine (rate_any a0 a1 _ a00 a01 a11).mono ?_
  rintro e v3 ⟨rfl, k, rfl⟩
  rw [if_neg (by omega), ← hf'.out]
  have hg2 : Hid (Grown w (v2.drewN k)) := grown_trans hg'.out (grown_drewN v2 k)
  by_cases hq : (f == 140737488355) = true
  · go_wp2
    go_ret
    exact ⟨rfl, hg2.out⟩
  · have hq' : (f == 140737488355) = false := by simpa using hq
    obtain ⟨d1, d2⟩ := hdd.out hq'
    clear hq
    go_wp2_with fail
    refine (drift_any f a1 _ (by omega) (by omega) a10 a11).mono ?_
    rintro e v4 ⟨rfl, k2, rfl⟩
    rw [← hd'.out]
    have hg3 : Hid (Grown w ((v2.drewN k).drewN k2)) := grown_trans hg2.out (grown_drewN _ k2)
    go_wp2
    all_goals
      go_ret
      exact ⟨ret_bool (by first | rfl | (simp; omega)), hg3.out⟩
end Go.Proofs.Ytofpiagiadgklab
