/- Called with any numbers FixedPowers returns true. -/
import Derived.Test.YtofpiagiadgklaaBigL
import Derived.Test.YtofpiagiadgklaaFixC
import Derived.Test.YtofpiagiadgklaaShift
import Derived.Test.YtofpiagiadgklaaLog
import Derived.WalkKit
import Derived.ProofKit
import Derived.OpenShut
import Derived.WalkSpells
import Derived.WalkLawsBesides
namespace Go.Proofs.Ytofpiagiadgklaa
open Go.RowKit
set_option maxHeartbeats 2000000 in
theorem FixedPowers_walk (a0 : Int) (a1 : Int) (a2 : Int) (a3 : Int) (w0 : (Lit.int .i64 a0).wf = true) (w1 : (Lit.int .i64 a1).wf = true) (w2 : (Lit.int .i64 a2).wf = true) (w3 : (Lit.int .i64 a3).wf = true) (w : World) :
    Calls Try.prog 8 #[.int .i64 a0, .int .i64 a1, .int .i64 a2, .int .i64 a3] w fun e w' => e = .returned (.bool true) ∧ Below w.heap.size w w' := by
  obtain ⟨a00, a01⟩ := bounds_i64 w0
  obtain ⟨a10, a11⟩ := bounds_i64 w1
  obtain ⟨a20, a21⟩ := bounds_i64 w2
  obtain ⟨a30, a31⟩ := bounds_i64 w3
  clear w0 w1 w2 w3
  obtain ⟨xr, hxr⟩ : ∃ xr, xr = (if a1 ≤ 0 then 0 else Fx.cl 140737488355 (a0 * 281474976710656 / a1)) := ⟨_, rfl⟩
  have XR : Hid (xr = (if a1 ≤ 0 then 0 else Fx.cl 140737488355 (a0 * 281474976710656 / a1))) := hxr
  clear hxr
  go_enter Try.func8, Try.ntmps8
  have K : Hid (Below w.heap.size w w) := Below.refl _ _
  go_wp2_with fail
  refine (power_any a2 _ a20 a21).mono ?_
  rintro e v0 ⟨rfl, hv⟩
  rw [hv]; clear hv
  go_wp2_with fail
  refine (rpower_any a2 _ a20 a21).mono ?_
  rintro e v1 ⟨rfl, k⟩
  have K1 : Hid (Below w.heap.size w v1) := Below.then K.out k
  clear k K
  go_wp2_with fail
  refine (log_any a0 _ a00 a01).mono ?_
  rintro e v2 ⟨rfl, hv⟩
  rw [hv]; clear hv
  go_wp2_with fail
  refine (rlog_any a0 _ a00 a01).mono ?_
  rintro e v3 ⟨rfl, k⟩
  have K3 : Hid (Below w.heap.size w v3) := Below.then K1.out k
  clear k K1
  go_wp2_with fail
  refine (drift_any a3 a0 _ a30 a31 a00 a01).mono ?_
  rintro e v4 ⟨rfl, q4, hv⟩
  have K4 : Hid (Below w.heap.size w v4) := by rw [hv]; exact below_drewN K3.out _
  clear hv K3
  go_wp2_with fail
  refine (rdrift_any a3 a0 _ a30 a31 a00 a01).mono ?_
  rintro e v5 ⟨rfl, k⟩
  have K5 : Hid (Below w.heap.size w v5) := Below.then K4.out k
  clear k K4
  go_wp2_with fail
  refine (rate_any a0 a1 _ a00 a01 a11).mono ?_
  rintro e v6 ⟨rfl, q6, hv⟩
  rw [← XR.out]
  have K6 : Hid (Below w.heap.size w v6) := by rw [hv]; exact below_drewN K5.out _
  clear hv K5
  go_wp2_with fail
  refine (rrate_any a0 a1 _ a00 a01 a10 a11).mono ?_
  rintro e v7 ⟨rfl, k⟩
  rw [← XR.out]
  have K7 : Hid (Below w.heap.size w v7) := Below.then K6.out k
  clear k K6
  go_wp2_with fail
  refine (cut_any a3 _).mono ?_
  rintro e v8 ⟨rfl, hv⟩
  rw [hv]; clear hv
  go_wp2_with fail
  refine (rcutf_any a3 _ a30 a31).mono ?_
  rintro e v9 ⟨rfl, k⟩
  have K9 : Hid (Below w.heap.size w v9) := Below.then K7.out k
  clear k K7
  go_wp2
  go_ret
  exact ⟨by first | rfl | simp, K9.out⟩
end Go.Proofs.Ytofpiagiadgklaa
