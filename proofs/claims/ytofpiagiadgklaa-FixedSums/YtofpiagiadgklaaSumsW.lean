/- Called with any two numbers FixedSums returns true. -/
import Derived.Test.YtofpiagiadgklaaBigK
import Derived.Test.YtofpiagiadgklaaFixA
import Derived.WalkKit
import Derived.ProofKit
import Derived.OpenShut
import Derived.WalkSpells
import Derived.WalkLawsBesides
namespace Go.Proofs.Ytofpiagiadgklaa
open Go.RowKit
set_option maxHeartbeats 2000000 in
theorem FixedSums_walk (a0 : Int) (a1 : Int) (w0 : (Lit.int .i64 a0).wf = true) (w1 : (Lit.int .i64 a1).wf = true) (w : World) :
    Calls Try.prog 5 #[.int .i64 a0, .int .i64 a1] w fun e w' => e = .returned (.bool true) ∧ Below w.heap.size w w' := by
  obtain ⟨a00, a01⟩ := bounds_i64 w0
  obtain ⟨a10, a11⟩ := bounds_i64 w1
  clear w0 w1
  obtain ⟨xc, hxc⟩ : ∃ xc, xc = (if a1 < 0 then 0 else Fx.cl (min a1 4611686018427387904) a0) := ⟨_, rfl⟩
  have XC : Hid (xc = (if a1 < 0 then 0 else Fx.cl (min a1 4611686018427387904) a0)) := hxc
  clear hxc
  go_enter Try.func5, Try.ntmps5
  go_wp2_with fail
  refine (add_any a0 a1 _ a00 a01 a10 a11).mono ?_
  rintro e v0 ⟨rfl, hv⟩
  rw [hv]; clear hv
  go_wp2_with fail
  refine (radd_any a0 a1 _ a00 a01 a10 a11).mono ?_
  rintro e v1 ⟨rfl, k⟩
  have K1 : Hid (Below w.heap.size w v1) := k
  clear k
  go_wp2_with fail
  refine (sub_any a0 a1 _ a00 a01 a10 a11).mono ?_
  rintro e v2 ⟨rfl, hv⟩
  rw [hv]; clear hv
  go_wp2_with fail
  refine (rsub_any a0 a1 _ a00 a01 a10 a11).mono ?_
  rintro e v3 ⟨rfl, k⟩
  rw [← Int.sub_eq_add_neg]
  have K3 : Hid (Below w.heap.size w v3) := Below.then K1.out k
  clear k K1
  go_wp2_with fail
  refine (neg_any a0 _ a00 a01).mono ?_
  rintro e v4 ⟨rfl, hv⟩
  rw [hv]; clear hv
  go_wp2_with fail
  refine (rneg_any a0 _ a00 a01).mono ?_
  rintro e v5 ⟨rfl, k⟩
  have K5 : Hid (Below w.heap.size w v5) := Below.then K3.out k
  clear k K3
  go_wp2_with fail
  refine (abs_any a0 _ a00 a01).mono ?_
  rintro e v6 ⟨rfl, hv⟩
  rw [hv]; clear hv
  go_wp2_with fail
  refine (rabs_any a0 _ a00 a01).mono ?_
  rintro e v7 ⟨rfl, k⟩
  have K7 : Hid (Below w.heap.size w v7) := Below.then K5.out k
  clear k K5
  go_wp2_with fail
  refine (mean_any a0 a1 _ a00 a01 a10 a11).mono ?_
  rintro e v8 ⟨rfl, hv⟩
  rw [hv]; clear hv
  go_wp2_with fail
  refine (rmean_any a0 a1 _ a00 a01 a10 a11).mono ?_
  rintro e v9 ⟨rfl, k⟩
  have K9 : Hid (Below w.heap.size w v9) := Below.then K7.out k
  clear k K7
  go_wp2_with fail
  refine (clamp_any a0 a1 _).mono ?_
  rintro e v10 ⟨rfl, hv⟩
  rw [hv]; clear hv
  rw [← XC.out]
  go_wp2_with fail
  refine (rclamp_any a0 a1 _ a00 a01 a11).mono ?_
  rintro e v11 ⟨rfl, k⟩
  rw [← XC.out]
  have K11 : Hid (Below w.heap.size w v11) := Below.then K9.out k
  clear k K9
  go_wp2
  go_ret
  exact ⟨by first | rfl | simp, K11.out⟩
end Go.Proofs.Ytofpiagiadgklaa
