/- What the reference's ToDate returns. -/
import Derived.Test.YthoilihokbakoaaDoorStR
import Derived.Test.YthoilihokbakoaaDoorStD
import Derived.WalkKit
import Derived.WalkSpells
import Derived.WalkLawsBesides
import Derived.Handy
import Derived.Below
import Derived.Deep.QuietTactic
import Derived.BigQuiet
namespace Go.Proofs.YthoilihokbakoaaDoor
open Go.RowKit
set_option maxRecDepth 20000 in
set_option maxHeartbeats 1000000 in
theorem rto_no6 (y m d h n s f : Int) (w : World) (_y0 : 1 ≤ y) (_y1 : y ≤ 2100) (m0 : 1 ≤ m) (m1 : m ≤ 12) (_d0 : 1 ≤ d) (_d1 : d ≤ Cal.dim y m) (x : h < 0) :
    Calls Tryd.prog 23 #[.agg #[.int .i64 y, .int .i64 m, .int .i64 d, .int .i64 h, .int .i64 n, .int .i64 s, .int .u32 f]] w fun e w' => e = .returned (noD 20) ∧ Below w.heap.size w w' := by
  have k0 : decide (y < 1) = false := by rw [decide_eq_false_iff_not]; omega
  have k1 : decide (2100 < y) = false := by rw [decide_eq_false_iff_not]; omega
  have k2 : decide (m < 1) = false := by rw [decide_eq_false_iff_not]; omega
  have k3 : decide (12 < m) = false := by rw [decide_eq_false_iff_not]; omega
  have k4 : decide (d < 1) = false := by rw [decide_eq_false_iff_not]; omega
  have k5 : decide (Cal.dim y m < d) = false := by rw [decide_eq_false_iff_not]; omega
  have k6 : decide (h < 0) = true := by rw [decide_eq_true_eq]; exact x
  go_enter Tryd.func23, Tryd.ntmps23
  go_wp2
  go_quiet ((go_at_call 30; exact Calls.quiet_of_same (rmonth_any y m _ (by omega) (by omega) m0 m1)))
  go_wp2
  exact bodyPost_ret (v := noD 20) (by simp [results, Tryd.results23, go_sem, noD]) rfl ⟨rfl, (by repeat' (first | with_reducible exact Below.refl _ _ | with_reducible refine Below.setCell ?_ (by first | (simp; done) | (simp; omega) | omega) _ | with_reducible refine below_drewN ?_ _ | with_reducible refine Below.drew ?_ | with_reducible refine Below.alloc ?_ (by first | (simp; done) | (simp; omega) | omega) _))⟩
set_option maxRecDepth 20000 in
set_option maxHeartbeats 1000000 in
theorem rto_no7 (y m d h n s f : Int) (w : World) (_y0 : 1 ≤ y) (_y1 : y ≤ 2100) (m0 : 1 ≤ m) (m1 : m ≤ 12) (_d0 : 1 ≤ d) (_d1 : d ≤ Cal.dim y m) (_h0 : 0 ≤ h) (x : 23 < h) :
    Calls Tryd.prog 23 #[.agg #[.int .i64 y, .int .i64 m, .int .i64 d, .int .i64 h, .int .i64 n, .int .i64 s, .int .u32 f]] w fun e w' => e = .returned (noD 20) ∧ Below w.heap.size w w' := by
  have k0 : decide (y < 1) = false := by rw [decide_eq_false_iff_not]; omega
  have k1 : decide (2100 < y) = false := by rw [decide_eq_false_iff_not]; omega
  have k2 : decide (m < 1) = false := by rw [decide_eq_false_iff_not]; omega
  have k3 : decide (12 < m) = false := by rw [decide_eq_false_iff_not]; omega
  have k4 : decide (d < 1) = false := by rw [decide_eq_false_iff_not]; omega
  have k5 : decide (Cal.dim y m < d) = false := by rw [decide_eq_false_iff_not]; omega
  have k6 : decide (h < 0) = false := by rw [decide_eq_false_iff_not]; omega
  have k7 : decide (23 < h) = true := by rw [decide_eq_true_eq]; exact x
  go_enter Tryd.func23, Tryd.ntmps23
  go_wp2
  go_quiet ((go_at_call 30; exact Calls.quiet_of_same (rmonth_any y m _ (by omega) (by omega) m0 m1)))
  go_wp2
  exact bodyPost_ret (v := noD 20) (by simp [results, Tryd.results23, go_sem, noD]) rfl ⟨rfl, (by repeat' (first | with_reducible exact Below.refl _ _ | with_reducible refine Below.setCell ?_ (by first | (simp; done) | (simp; omega) | omega) _ | with_reducible refine below_drewN ?_ _ | with_reducible refine Below.drew ?_ | with_reducible refine Below.alloc ?_ (by first | (simp; done) | (simp; omega) | omega) _))⟩
set_option maxRecDepth 20000 in
set_option maxHeartbeats 1000000 in
theorem rto_no8 (y m d h n s f : Int) (w : World) (_y0 : 1 ≤ y) (_y1 : y ≤ 2100) (m0 : 1 ≤ m) (m1 : m ≤ 12) (_d0 : 1 ≤ d) (_d1 : d ≤ Cal.dim y m) (_h0 : 0 ≤ h) (_h1 : h ≤ 23) (x : n < 0) :
    Calls Tryd.prog 23 #[.agg #[.int .i64 y, .int .i64 m, .int .i64 d, .int .i64 h, .int .i64 n, .int .i64 s, .int .u32 f]] w fun e w' => e = .returned (noD 20) ∧ Below w.heap.size w w' := by
  have k0 : decide (y < 1) = false := by rw [decide_eq_false_iff_not]; omega
  have k1 : decide (2100 < y) = false := by rw [decide_eq_false_iff_not]; omega
  have k2 : decide (m < 1) = false := by rw [decide_eq_false_iff_not]; omega
  have k3 : decide (12 < m) = false := by rw [decide_eq_false_iff_not]; omega
  have k4 : decide (d < 1) = false := by rw [decide_eq_false_iff_not]; omega
  have k5 : decide (Cal.dim y m < d) = false := by rw [decide_eq_false_iff_not]; omega
  have k6 : decide (h < 0) = false := by rw [decide_eq_false_iff_not]; omega
  have k7 : decide (23 < h) = false := by rw [decide_eq_false_iff_not]; omega
  have k8 : decide (n < 0) = true := by rw [decide_eq_true_eq]; exact x
  go_enter Tryd.func23, Tryd.ntmps23
  go_wp2
  go_quiet ((go_at_call 30; exact Calls.quiet_of_same (rmonth_any y m _ (by omega) (by omega) m0 m1)))
  go_wp2
  exact bodyPost_ret (v := noD 20) (by simp [results, Tryd.results23, go_sem, noD]) rfl ⟨rfl, (by repeat' (first | with_reducible exact Below.refl _ _ | with_reducible refine Below.setCell ?_ (by first | (simp; done) | (simp; omega) | omega) _ | with_reducible refine below_drewN ?_ _ | with_reducible refine Below.drew ?_ | with_reducible refine Below.alloc ?_ (by first | (simp; done) | (simp; omega) | omega) _))⟩
set_option maxRecDepth 20000 in
set_option maxHeartbeats 1000000 in
theorem rto_no9 (y m d h n s f : Int) (w : World) (_y0 : 1 ≤ y) (_y1 : y ≤ 2100) (m0 : 1 ≤ m) (m1 : m ≤ 12) (_d0 : 1 ≤ d) (_d1 : d ≤ Cal.dim y m) (_h0 : 0 ≤ h) (_h1 : h ≤ 23) (_n0 : 0 ≤ n) (x : 59 < n) :
    Calls Tryd.prog 23 #[.agg #[.int .i64 y, .int .i64 m, .int .i64 d, .int .i64 h, .int .i64 n, .int .i64 s, .int .u32 f]] w fun e w' => e = .returned (noD 20) ∧ Below w.heap.size w w' := by
  have k0 : decide (y < 1) = false := by rw [decide_eq_false_iff_not]; omega
  have k1 : decide (2100 < y) = false := by rw [decide_eq_false_iff_not]; omega
  have k2 : decide (m < 1) = false := by rw [decide_eq_false_iff_not]; omega
  have k3 : decide (12 < m) = false := by rw [decide_eq_false_iff_not]; omega
  have k4 : decide (d < 1) = false := by rw [decide_eq_false_iff_not]; omega
  have k5 : decide (Cal.dim y m < d) = false := by rw [decide_eq_false_iff_not]; omega
  have k6 : decide (h < 0) = false := by rw [decide_eq_false_iff_not]; omega
  have k7 : decide (23 < h) = false := by rw [decide_eq_false_iff_not]; omega
  have k8 : decide (n < 0) = false := by rw [decide_eq_false_iff_not]; omega
  have k9 : decide (59 < n) = true := by rw [decide_eq_true_eq]; exact x
  go_enter Tryd.func23, Tryd.ntmps23
  go_wp2
  go_quiet ((go_at_call 30; exact Calls.quiet_of_same (rmonth_any y m _ (by omega) (by omega) m0 m1)))
  go_wp2
  exact bodyPost_ret (v := noD 20) (by simp [results, Tryd.results23, go_sem, noD]) rfl ⟨rfl, (by repeat' (first | with_reducible exact Below.refl _ _ | with_reducible refine Below.setCell ?_ (by first | (simp; done) | (simp; omega) | omega) _ | with_reducible refine below_drewN ?_ _ | with_reducible refine Below.drew ?_ | with_reducible refine Below.alloc ?_ (by first | (simp; done) | (simp; omega) | omega) _))⟩
set_option maxRecDepth 20000 in
set_option maxHeartbeats 1000000 in
theorem rto_no10 (y m d h n s f : Int) (w : World) (_y0 : 1 ≤ y) (_y1 : y ≤ 2100) (m0 : 1 ≤ m) (m1 : m ≤ 12) (_d0 : 1 ≤ d) (_d1 : d ≤ Cal.dim y m) (_h0 : 0 ≤ h) (_h1 : h ≤ 23) (_n0 : 0 ≤ n) (_n1 : n ≤ 59) (x : s < 0) :
    Calls Tryd.prog 23 #[.agg #[.int .i64 y, .int .i64 m, .int .i64 d, .int .i64 h, .int .i64 n, .int .i64 s, .int .u32 f]] w fun e w' => e = .returned (noD 20) ∧ Below w.heap.size w w' := by
  have k0 : decide (y < 1) = false := by rw [decide_eq_false_iff_not]; omega
  have k1 : decide (2100 < y) = false := by rw [decide_eq_false_iff_not]; omega
  have k2 : decide (m < 1) = false := by rw [decide_eq_false_iff_not]; omega
  have k3 : decide (12 < m) = false := by rw [decide_eq_false_iff_not]; omega
  have k4 : decide (d < 1) = false := by rw [decide_eq_false_iff_not]; omega
  have k5 : decide (Cal.dim y m < d) = false := by rw [decide_eq_false_iff_not]; omega
  have k6 : decide (h < 0) = false := by rw [decide_eq_false_iff_not]; omega
  have k7 : decide (23 < h) = false := by rw [decide_eq_false_iff_not]; omega
  have k8 : decide (n < 0) = false := by rw [decide_eq_false_iff_not]; omega
  have k9 : decide (59 < n) = false := by rw [decide_eq_false_iff_not]; omega
  have k10 : decide (s < 0) = true := by rw [decide_eq_true_eq]; exact x
  go_enter Tryd.func23, Tryd.ntmps23
  go_wp2
  go_quiet ((go_at_call 30; exact Calls.quiet_of_same (rmonth_any y m _ (by omega) (by omega) m0 m1)))
  go_wp2
  exact bodyPost_ret (v := noD 20) (by simp [results, Tryd.results23, go_sem, noD]) rfl ⟨rfl, (by repeat' (first | with_reducible exact Below.refl _ _ | with_reducible refine Below.setCell ?_ (by first | (simp; done) | (simp; omega) | omega) _ | with_reducible refine below_drewN ?_ _ | with_reducible refine Below.drew ?_ | with_reducible refine Below.alloc ?_ (by first | (simp; done) | (simp; omega) | omega) _))⟩
set_option maxRecDepth 20000 in
set_option maxHeartbeats 1000000 in
theorem rto_no11 (y m d h n s f : Int) (w : World) (_y0 : 1 ≤ y) (_y1 : y ≤ 2100) (m0 : 1 ≤ m) (m1 : m ≤ 12) (_d0 : 1 ≤ d) (_d1 : d ≤ Cal.dim y m) (_h0 : 0 ≤ h) (_h1 : h ≤ 23) (_n0 : 0 ≤ n) (_n1 : n ≤ 59) (_s0 : 0 ≤ s) (x : 59 < s) :
    Calls Tryd.prog 23 #[.agg #[.int .i64 y, .int .i64 m, .int .i64 d, .int .i64 h, .int .i64 n, .int .i64 s, .int .u32 f]] w fun e w' => e = .returned (noD 20) ∧ Below w.heap.size w w' := by
  have k0 : decide (y < 1) = false := by rw [decide_eq_false_iff_not]; omega
  have k1 : decide (2100 < y) = false := by rw [decide_eq_false_iff_not]; omega
  have k2 : decide (m < 1) = false := by rw [decide_eq_false_iff_not]; omega
  have k3 : decide (12 < m) = false := by rw [decide_eq_false_iff_not]; omega
  have k4 : decide (d < 1) = false := by rw [decide_eq_false_iff_not]; omega
  have k5 : decide (Cal.dim y m < d) = false := by rw [decide_eq_false_iff_not]; omega
  have k6 : decide (h < 0) = false := by rw [decide_eq_false_iff_not]; omega
  have k7 : decide (23 < h) = false := by rw [decide_eq_false_iff_not]; omega
  have k8 : decide (n < 0) = false := by rw [decide_eq_false_iff_not]; omega
  have k9 : decide (59 < n) = false := by rw [decide_eq_false_iff_not]; omega
  have k10 : decide (s < 0) = false := by rw [decide_eq_false_iff_not]; omega
  have k11 : decide (59 < s) = true := by rw [decide_eq_true_eq]; exact x
  go_enter Tryd.func23, Tryd.ntmps23
  go_wp2
  go_quiet ((go_at_call 30; exact Calls.quiet_of_same (rmonth_any y m _ (by omega) (by omega) m0 m1)))
  go_wp2
  exact bodyPost_ret (v := noD 20) (by simp [results, Tryd.results23, go_sem, noD]) rfl ⟨rfl, (by repeat' (first | with_reducible exact Below.refl _ _ | with_reducible refine Below.setCell ?_ (by first | (simp; done) | (simp; omega) | omega) _ | with_reducible refine below_drewN ?_ _ | with_reducible refine Below.drew ?_ | with_reducible refine Below.alloc ?_ (by first | (simp; done) | (simp; omega) | omega) _))⟩
end Go.Proofs.YthoilihokbakoaaDoor
