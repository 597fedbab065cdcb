/- Called with any three numbers FixedOrder returns true. -/
import Derived.Test.YtofpiagiadgklabFixC
import Derived.WalkKit
import Derived.ProofKit
import Derived.OpenShut
import Derived.WalkSpells
import Derived.WalkLawsBesides
namespace Go.Proofs.Ytofpiagiadgklab
open Go.RowKit
theorem FixedOrder_walk (a0 : Int) (a1 : Int) (a2 : Int) (w0 : (Lit.int .i64 a0).wf = true) (w1 : (Lit.int .i64 a1).wf = true) (w2 : (Lit.int .i64 a2).wf = true) (w : World) :
    Calls Try.prog 4 #[.int .i64 a0, .int .i64 a1, .int .i64 a2] w fun e w' => e = .returned (.bool true) ∧ Grown w w' := by
  obtain ⟨a00, a01⟩ := bounds_i64 w0
  obtain ⟨a10, a11⟩ := bounds_i64 w1
  obtain ⟨a20, a21⟩ := bounds_i64 w2
  clear w0 w1 w2
  have key : ∀ w : World, Calls Try.prog 4 #[.int .i64 a0, .int .i64 a1, .int .i64 a2] w fun e w' => e = .returned (.bool true) ∧ ∃ n, w' = w.drewN n := by
    clear w
    intro w
    by_cases hab : a0 ≤ a1
    · have hm : decide (Fx.cl 4611686018427387904 (a1 + a2) < Fx.cl 4611686018427387904 (a0 + a2)) = false := decide_eq_false (by have := Fx.cl_mono (m := 4611686018427387904) (show a0 + a2 ≤ a1 + a2 by omega); omega)
      go_enter Try.func4, Try.ntmps4
      go_wp2_with fail
      refine (add_any a0 a2 _ a00 a01 a20 a21).mono ?_
      rintro e w1 ⟨rfl, rfl⟩
      go_wp2_with fail
      refine (add_any a1 a2 _ a10 a11 a20 a21).mono ?_
      rintro e w1 ⟨rfl, rfl⟩
      go_wp2_with fail
      refine (add_any a0 a1 _ a00 a01 a10 a11).mono ?_
      rintro e w1 ⟨rfl, rfl⟩
      go_wp2_with fail
      refine (add_any a1 a0 _ a10 a11 a00 a01).mono ?_
      rintro e w1 ⟨rfl, rfl⟩
      rw [Int.add_comm a1 a0]
      go_wp2_with fail
      refine (mul_any a0 a1 _ a00 a01 a10 a11).mono ?_
      rintro e w1 ⟨rfl, n1, rfl⟩
      go_wp2_with fail
      refine (mul_any a1 a0 _ a10 a11 a00 a01).mono ?_
      rintro e w1 ⟨rfl, n2, rfl⟩
      rw [Int.mul_comm a1 a0]
      go_wp2_with fail
      refine (mean_any a0 a1 _ a00 a01 a10 a11).mono ?_
      rintro e w2 ⟨rfl, rfl⟩
      go_wp2_with fail
      refine (mean_any a1 a0 _ a10 a11 a00 a01).mono ?_
      rintro e w2 ⟨rfl, rfl⟩
      rw [Int.add_comm a1 a0]
      by_cases hc1 : 2305843009213693952 < a0
      · go_wp2
        go_ret
        exact ⟨rfl, w_drew _ _⟩
      by_cases hc2 : a0 < -2305843009213693952
      · go_wp2
        go_ret
        exact ⟨rfl, w_drew _ _⟩
      by_cases hc3 : 2305843009213693952 < a1
      · go_wp2
        go_ret
        exact ⟨rfl, w_drew _ _⟩
      by_cases hc4 : a1 < -2305843009213693952
      · go_wp2
        go_ret
        exact ⟨rfl, w_drew _ _⟩
      have e1 : Fx.cl 4611686018427387904 ((a0 + a1) / 2) = (a0 + a1) / 2 := Fx.cl_in (by omega) (by omega)
      have e2 : Fx.cl 4611686018427387904 (a0 - a1) = a0 - a1 := Fx.cl_in (by omega) (by omega)
      have e3 : Fx.cl 4611686018427387904 a0 = a0 := Fx.cl_in (by omega) (by omega)
      go_wp2_with fail
      refine (mean_any a0 a1 _ a00 a01 a10 a11).mono ?_
      rintro e w2 ⟨rfl, rfl⟩
      go_wp2_with fail
      refine (sub_any a0 a1 _ a00 a01 a10 a11).mono ?_
      rintro e w2 ⟨rfl, rfl⟩
      rw [e2]
      go_wp2_with fail
      refine (add_any (a0 - a1) a1 _ (by omega) (by omega) a10 a11).mono ?_
      rintro e w2 ⟨rfl, rfl⟩
      rw [Int.sub_add_cancel, e3]
      go_wp2
      all_goals
        go_ret
        exact ⟨ret_bool (by simp; omega), w_drew _ _⟩
    · go_enter Try.func4, Try.ntmps4
      go_wp2_with fail
      refine (add_any a0 a1 _ a00 a01 a10 a11).mono ?_
      rintro e w1 ⟨rfl, rfl⟩
      go_wp2_with fail
      refine (add_any a1 a0 _ a10 a11 a00 a01).mono ?_
      rintro e w1 ⟨rfl, rfl⟩
      rw [Int.add_comm a1 a0]
      go_wp2_with fail
      refine (mul_any a0 a1 _ a00 a01 a10 a11).mono ?_
      rintro e w1 ⟨rfl, n1, rfl⟩
      go_wp2_with fail
      refine (mul_any a1 a0 _ a10 a11 a00 a01).mono ?_
      rintro e w1 ⟨rfl, n2, rfl⟩
      rw [Int.mul_comm a1 a0]
      go_wp2_with fail
      refine (mean_any a0 a1 _ a00 a01 a10 a11).mono ?_
      rintro e w2 ⟨rfl, rfl⟩
      go_wp2_with fail
      refine (mean_any a1 a0 _ a10 a11 a00 a01).mono ?_
      rintro e w2 ⟨rfl, rfl⟩
      rw [Int.add_comm a1 a0]
      by_cases hc1 : 2305843009213693952 < a0
      · go_wp2
        go_ret
        exact ⟨rfl, w_drew _ _⟩
      by_cases hc2 : a0 < -2305843009213693952
      · go_wp2
        go_ret
        exact ⟨rfl, w_drew _ _⟩
      by_cases hc3 : 2305843009213693952 < a1
      · go_wp2
        go_ret
        exact ⟨rfl, w_drew _ _⟩
      by_cases hc4 : a1 < -2305843009213693952
      · go_wp2
        go_ret
        exact ⟨rfl, w_drew _ _⟩
      have e1 : Fx.cl 4611686018427387904 ((a0 + a1) / 2) = (a0 + a1) / 2 := Fx.cl_in (by omega) (by omega)
      have e2 : Fx.cl 4611686018427387904 (a0 - a1) = a0 - a1 := Fx.cl_in (by omega) (by omega)
      have e3 : Fx.cl 4611686018427387904 a0 = a0 := Fx.cl_in (by omega) (by omega)
      go_wp2_with fail
      refine (mean_any a0 a1 _ a00 a01 a10 a11).mono ?_
      rintro e w2 ⟨rfl, rfl⟩
      go_wp2_with fail
      refine (sub_any a0 a1 _ a00 a01 a10 a11).mono ?_
      rintro e w2 ⟨rfl, rfl⟩
      rw [e2]
      go_wp2_with fail
      refine (add_any (a0 - a1) a1 _ (by omega) (by omega) a10 a11).mono ?_
      rintro e w2 ⟨rfl, rfl⟩
      rw [Int.sub_add_cancel, e3]
      go_wp2
      all_goals
        go_ret
        exact ⟨ret_bool (by simp; omega), w_drew _ _⟩
  refine (key w).mono ?_
  rintro e w' ⟨rfl, n, rfl⟩
  exact ⟨rfl, grown_drewN w n⟩
end Go.Proofs.Ytofpiagiadgklab
