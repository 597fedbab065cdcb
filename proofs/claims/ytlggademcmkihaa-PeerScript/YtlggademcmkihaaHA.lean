/- Stamps and spans: times between stamps, exchanges, wear: what both programs return. -/
import Derived.Test.YtlggademcmkihaaJM
import Derived.Test.YtlggademcmkihaaShift
namespace Go.Proofs.Ytlggademcmkihaa
open Go Go.RowKit
/-- the time from b to a -/
def sn (a b : Int) : Int := Fx.cl 4611686018427387904 ((a - b + 9223372036854775808) % 18446744073709551616 - 9223372036854775808)
theorem sn_bd (a b : Int) : -4611686018427387904 ≤ sn a b ∧ sn a b ≤ 4611686018427387904 := by unfold sn; exact Fx.cl_bd (by decide) _
theorem cl62 (x : Int) : -4611686018427387904 ≤ Fx.cl 4611686018427387904 x ∧ Fx.cl 4611686018427387904 x ≤ 4611686018427387904 := Fx.cl_bd (by decide) x
theorem run_mxS (a b : Int) (u : World) : (Builtin.max_ #[25, 25] 25 #[.int .i64 a, .int .i64 b]).run Try.prog u = .ok (.int .i64 (max a b)) u := by
  have : (Builtin.max_ #[25, 25] 25 #[.int .i64 a, .int .i64 b]).run Try.prog u = .ok (.int .i64 (if a < b then b else a)) u := by simp [go_sem]
  rw [this]; congr 2; split <;> omega
theorem run_mnS (a b : Int) (u : World) : (Builtin.min_ #[25, 25] 25 #[.int .i64 a, .int .i64 b]).run Try.prog u = .ok (.int .i64 (min a b)) u := by
  have : (Builtin.min_ #[25, 25] 25 #[.int .i64 a, .int .i64 b]).run Try.prog u = .ok (.int .i64 (if b < a then b else a)) u := by simp [go_sem]
  rw [this]; congr 2; split <;> omega
set_option maxHeartbeats 400000 in
theorem clampM_any (a : Int) (w : World) :
    Calls Try.prog 53 #[.int .i64 a, .int .i64 4611686018427387904] w fun e w' => e = .returned (.int .i64 (Fx.cl 4611686018427387904 a)) ∧ w' = w := by
  go_enter Try.func53, Try.ntmps53
  go_wp2_with (go_at_call 54; refine (bound_any _ _ _ (by omega) (by omega)).mono ?_; rintro e w' ⟨rfl, rfl⟩)
  go_ret
  exact ⟨rfl, rfl⟩
set_option maxHeartbeats 400000 in
theorem since_any (a b : Int) (w : World) :
    Calls Try.prog 30 #[.int .u64 a, .int .u64 b] w fun e w' => e = .returned (.int .i64 (sn a b)) ∧ w' = w := by
  go_enter Try.func30, Try.ntmps30
  go_wp2_with (go_at_call 53; refine (clampM_any _ _).mono ?_; rintro e w' ⟨rfl, rfl⟩)
  go_ret
  refine ⟨ret_int' ?_, rfl⟩
  unfold sn
  congr 1
  simp only [IntKind.wrap_u64, wrap64]
  omega
set_option maxHeartbeats 400000 in
theorem rcutS_any (a : Int) (w : World) :
    Calls Try.prog 63 #[.int .i64 a] w fun e w' => e = .returned (.int .i64 (Fx.cl 4611686018427387904 a)) ∧ w' = w := by
  go_enter Try.func63, Try.ntmps63
  go_wp2
  all_goals
    go_ret
    exact ⟨ret_int' (by unfold Fx.cl; split at * <;> omega), rfl⟩
set_option maxHeartbeats 400000 in
theorem rsince_any (a b : Int) (w : World) :
    Calls Try.prog 40 #[.int .u64 a, .int .u64 b] w fun e w' => e = .returned (.int .i64 (sn a b)) ∧ w' = w := by
  go_enter Try.func40, Try.ntmps40
  go_wp2_with (go_at_call 63; refine (rcutS_any _ _).mono ?_; rintro e w' ⟨rfl, rfl⟩)
  go_ret
  refine ⟨ret_int' ?_, rfl⟩
  unfold sn
  congr 1
  simp only [IntKind.wrap_u64, wrap64]
  omega
set_option maxHeartbeats 400000 in
theorem fromShort_any (n : Int) (w : World) (n0 : 0 ≤ n) (n1 : n < 4294967296) :
    Calls Try.prog 77 #[.int .u32 n] w fun e w' => e = .returned (.int .i64 (n * 65536)) ∧ w' = w := by
  go_enter Try.func77, Try.ntmps77
  go_wp2
  go_ret
  exact ⟨rfl, rfl⟩
set_option maxHeartbeats 400000 in
theorem rfromShort_any (n : Int) (w : World) (n0 : 0 ≤ n) (n1 : n < 4294967296) :
    Calls Try.prog 57 #[.int .u32 n] w fun e w' => e = .returned (.int .i64 (n * 65536)) ∧ w' = w := by
  go_enter Try.func57, Try.ntmps57
  go_wp2
  go_ret
  exact ⟨rfl, rfl⟩
/-- an exchange's offset and delay -/
def exO (org rec xmt dst : Int) : Int := Fx.cl 4611686018427387904 ((sn rec org + sn xmt dst) / 2)
def exD (org rec xmt dst : Int) : Int := max (Fx.cl 4611686018427387904 (sn rec org - sn xmt dst)) 4096
theorem ret_two {k : IntKind} {a b c d : Int} (h : a = b) (h2 : c = d) : Ending.returned (.tuple #[.int k a, .int k c]) = .returned (.tuple #[.int k b, .int k d]) := by rw [h, h2]
set_option maxHeartbeats 400000 in
theorem exchange_any (org rec xmt dst : Int) (w : World) :
    Calls Try.prog 9 #[.int .u64 org, .int .u64 rec, .int .u64 xmt, .int .u64 dst] w fun e w' => e = .returned (.tuple #[.int .i64 (exO org rec xmt dst), .int .i64 (exD org rec xmt dst)]) ∧ w' = w := by
  unfold exO exD
  have b1 := sn_bd rec org
  have b2 := sn_bd xmt dst
  have mx := run_mxS
  go_enter Try.func9, Try.ntmps9
  go_wp2_with (first
    | (go_at_call 30; refine (since_any _ _ _).mono ?_; rintro e w' ⟨rfl, rfl⟩)
    | (go_at_call 31; refine (mean_any _ _ _ (by omega) (by omega) (by omega) (by omega)).mono ?_; rintro e w' ⟨rfl, rfl⟩)
    | (go_at_call 32; refine (sub_any _ _ _ (by omega) (by omega) (by omega) (by omega)).mono ?_; rintro e w' ⟨rfl, rfl⟩))
  go_ret2
  exact ⟨rfl, rfl⟩
theorem below_then {a b c : World} (h : Below a.heap.size a b) (k : Below b.heap.size b c) : Below a.heap.size a c := h.trans (k.mono h.size)
end Go.Proofs.Ytlggademcmkihaa
