/- Called with any number FixedLogs returns true. -/
import Derived.Test.YtofpiagiadgklaaBigL
import Derived.Test.YtofpiagiadgklaaLog
import Derived.WalkKit
import Derived.ProofKit
import Derived.OpenShut
import Derived.WalkSpells
import Derived.WalkLawsBesides
namespace Go.Proofs.Ytofpiagiadgklaa
open Go.RowKit
theorem pow_val (m : Nat) (h : m ≤ 62) : Fx.sh 4294967296 ((m : Int) - 32) = ((2 ^ m : Nat) : Int) := by
  have h1 := pw_ge m 62 h
  have h2 : (0 : Int) < 2 ^ m := Int.pow_pos (by decide)
  rw [show (2 : Int) ^ 62 = 4611686018427387904 from by decide] at h1
  rw [← power_mid ((m : Int) - 32) (by omega), show (32 + ((m : Int) - 32)).toNat = m from by omega, Fx.cl_in (by omega) (by omega), Int.natCast_pow]
  rfl
set_option maxHeartbeats 1000000 in
theorem FixedLogs_walk (a0 : Int) (w0 : (Lit.int .i64 a0).wf = true) (w : World) :
    Calls Try.prog 4 #[.int .i64 a0] w fun e w' => e = .returned (.bool true) ∧ Below w.heap.size w w' := by
  obtain ⟨a00, a01⟩ := bounds_i64 w0
  clear w0
  by_cases c : a0 ≤ 0 ∨ 4611686018427387904 ≤ a0
  · obtain ⟨bl, hbl⟩ : ∃ bl : Int, bl = (bitLen a0.toNat : Int) - 33 := ⟨_, rfl⟩
    have HBL : Hid (bl = (bitLen a0.toNat : Int) - 33) := hbl
    clear hbl
    by_cases c1 : a0 ≤ 0
    all_goals
      go_enter Try.func4, Try.ntmps4
      go_wp2_with fail
      refine (log_any a0 _ a00 a01).mono ?_
      rintro e v0 ⟨rfl, hv⟩
      rw [hv, ← HBL.out]; clear hv
      go_wp2_with fail
      refine (rlog_any a0 _ a00 a01).mono ?_
      rintro e v1 ⟨rfl, k⟩
      rw [← HBL.out]
      have K : Hid (Below w.heap.size w v1) := k
      clear k
      go_wp2
      go_ret
      exact ⟨by first | rfl | simp, K.out⟩
  · obtain ⟨A, hA⟩ := Int.eq_ofNat_of_zero_le (show 0 ≤ a0 by omega)
    obtain ⟨s1, s2⟩ := bitLen_spec A
    have s3 := s2 (by omega)
    have hpos : 1 ≤ bitLen A := by
      rcases Nat.eq_zero_or_pos (bitLen A) with h0 | h0
      · rw [h0] at s1; simp at s1; omega
      · exact h0
    obtain ⟨m, hm⟩ : ∃ m : Nat, bitLen A = m + 1 := ⟨bitLen A - 1, by omega⟩
    have hm62 : m ≤ 61 := by
      refine Nat.le_of_not_lt fun x => ?_
      have := Nat.pow_le_pow_right (show 0 < 2 by decide) (show 62 ≤ m from x)
      rw [hm, Nat.add_sub_cancel] at s3
      omega
    obtain ⟨nn, hnn⟩ : ∃ nn : Int, nn = (m : Int) - 32 := ⟨_, rfl⟩
    obtain ⟨p, hp⟩ : ∃ p : Int, p = ((2 ^ m : Nat) : Int) := ⟨_, rfl⟩
    obtain ⟨q, hq⟩ : ∃ q : Int, q = ((2 ^ (m + 1) : Nat) : Int) := ⟨_, rfl⟩
    have hpa : p ≤ a0 := by rw [hm, Nat.add_sub_cancel] at s3; omega
    have hqa : a0 < q := by rw [hm] at s1; omega
    have hp0 : 0 ≤ p := by rw [hp]; exact Int.natCast_nonneg _
    have HL : Hid ((bitLen a0.toNat : Int) - 33 = nn) := by show _ = _; rw [hA, Int.toNat_natCast, hm, hnn]; omega
    have HP : Hid (Fx.sh 4294967296 nn = p) := by show _ = _; rw [hnn, hp]; exact pow_val m (by omega)
    have HQ : Hid (Fx.sh 4294967296 (nn + 1) = q) := by
      show _ = _
      rw [hnn, hq, show (m : Int) - 32 + 1 = ((m + 1 : Nat) : Int) - 32 from by omega]
      exact pow_val (m + 1) (by omega)
    have HLP : Hid ((bitLen p.toNat : Int) - 33 = nn) := by
      show _ = _
      rw [hp, Int.toNat_natCast, bl_eq (2 ^ m) m (Nat.le_refl _) (Nat.pow_lt_pow_right (by decide) (by omega)), hnn]
      omega
    have n0 : -32 ≤ nn := by omega
    have n1 : nn ≤ 29 := by omega
    clear hA s1 s2 s3 hpos hm hm62 hnn hp hq
    go_enter Try.func4, Try.ntmps4
    go_wp2_with fail
    refine (log_any a0 _ a00 a01).mono ?_
    rintro e v0 ⟨rfl, hv⟩
    rw [hv, HL.out]; clear hv
    go_wp2_with fail
    refine (power_any nn _ (by omega) (by omega)).mono ?_
    rintro e v0 ⟨rfl, hv⟩
    rw [hv, HP.out]; clear hv
    go_wp2_with fail
    refine (power_any (nn + 1) _ (by omega) (by omega)).mono ?_
    rintro e v0 ⟨rfl, hv⟩
    rw [hv, HQ.out]; clear hv
    go_wp2_with fail
    refine (power_any nn _ (by omega) (by omega)).mono ?_
    rintro e v0 ⟨rfl, hv⟩
    rw [hv, HP.out]; clear hv
    go_wp2_with fail
    refine (log_any p _ (by omega) (by omega)).mono ?_
    rintro e v0 ⟨rfl, hv⟩
    rw [hv, HLP.out]; clear hv
    go_wp2
    go_ret
    exact ⟨by first | rfl | simp, Below.refl _ _⟩
end Go.Proofs.Ytofpiagiadgklaa
