/- Called with any numbers FixedProducts returns true. -/
import Derived.Test.YtofpiagiadgklaaBigL
import Derived.Test.YtofpiagiadgklaaFixC
import Derived.Test.YtofpiagiadgklaaShift
import Derived.WalkKit
import Derived.ProofKit
import Derived.OpenShut
import Derived.WalkSpells
import Derived.WalkLawsBesides
namespace Go.Proofs.Ytofpiagiadgklaa
open Go.RowKit
theorem tmod70 (a : Int) : -70 < a.tmod 70 ∧ a.tmod 70 < 70 := by
  rcases Int.le_total 0 a with h | h
  · rw [Int.tmod_eq_emod_of_nonneg h]; omega
  · obtain ⟨b, rfl⟩ : ∃ b, a = -b := ⟨-a, by omega⟩
    rw [Int.neg_tmod, Int.tmod_eq_emod_of_nonneg (by omega)]; omega
set_option maxHeartbeats 2000000 in
theorem FixedProducts_walk (a0 : Int) (a1 : Int) (a2 : Int) (a3 : Int) (w0 : (Lit.int .i64 a0).wf = true) (w1 : (Lit.int .i64 a1).wf = true) (w2 : (Lit.int .i64 a2).wf = true) (w3 : (Lit.int .i64 a3).wf = true) (w : World) :
    Calls Try.prog 6 #[.int .i64 a0, .int .i64 a1, .int .i64 a2, .int .i64 a3] w fun e w' => e = .returned (.bool true) ∧ Below w.heap.size w w' := by
  obtain ⟨a00, a01⟩ := bounds_i64 w0
  obtain ⟨a10, a11⟩ := bounds_i64 w1
  obtain ⟨a20, a21⟩ := bounds_i64 w2
  obtain ⟨a30, a31⟩ := bounds_i64 w3
  clear w0 w1 w2 w3
  obtain ⟨xs, hxs⟩ : ∃ xs, xs = (if a3 ≤ 0 then 0 else Fx.cl 4611686018427387904 (a0 * a2 / a3)) := ⟨_, rfl⟩
  have XS : Hid (xs = (if a3 ≤ 0 then 0 else Fx.cl 4611686018427387904 (a0 * a2 / a3))) := hxs
  have HT : Hid (-9223372036854775808 ≤ a3.tmod 70 ∧ a3.tmod 70 ≤ 9223372036854775807) := by have := tmod70 a3; exact ⟨by omega, by omega⟩
  clear hxs
  go_enter Try.func6, Try.ntmps6
  have K : Hid (Below w.heap.size w w) := Below.refl _ _
  go_wp2_with fail
  refine (mul_any a0 a1 _ a00 a01 a10 a11).mono ?_
  rintro e v0 ⟨rfl, q0, hv⟩
  have K0 : Hid (Below w.heap.size w v0) := by rw [hv]; exact below_drewN K.out _
  clear hv K
  go_wp2_with fail
  refine (rmul_any a0 a1 _ a00 a01 a10 a11).mono ?_
  rintro e v1 ⟨rfl, k⟩
  have K1 : Hid (Below w.heap.size w v1) := Below.then K0.out k
  clear k K0
  go_wp2_with fail
  refine (scale_any a0 a2 a3 _ a00 a01 a20 a21 a31).mono ?_
  rintro e v2 ⟨rfl, q2, hv⟩
  rw [← XS.out]
  have K2 : Hid (Below w.heap.size w v2) := by rw [hv]; exact below_drewN K1.out _
  clear hv K1
  go_wp2_with fail
  refine (rscale_any a0 a2 a3 _ a00 a01 a20 a21 a30 a31).mono ?_
  rintro e v3 ⟨rfl, k⟩
  rw [← XS.out]
  have K3 : Hid (Below w.heap.size w v3) := Below.then K2.out k
  clear k K2
  go_wp2_with fail
  refine (shift_any a0 a2 _ a20 a21).mono ?_
  rintro e v4 ⟨rfl, hv⟩
  rw [hv]; clear hv
  go_wp2_with fail
  refine (rshift_any a0 a2 _ a00 a01 a20 a21).mono ?_
  rintro e v5 ⟨rfl, k⟩
  have K5 : Hid (Below w.heap.size w v5) := Below.then K3.out k
  clear k K3
  go_wp2_with fail
  refine (shift_any a1 (a3.tmod 70) _ HT.out.1 HT.out.2).mono ?_
  rintro e v6 ⟨rfl, hv⟩
  rw [hv]; clear hv
  go_wp2_with fail
  refine (rshift_any a1 (a3.tmod 70) _ a10 a11 HT.out.1 HT.out.2).mono ?_
  rintro e v7 ⟨rfl, k⟩
  have K7 : Hid (Below w.heap.size w v7) := Below.then K5.out k
  clear k K5
  go_wp2
  go_ret
  exact ⟨by first | rfl | simp, K7.out⟩
end Go.Proofs.Ytofpiagiadgklaa
