/- Stamps and spans: times between stamps, exchanges, wear: what both programs return. -/
import Derived.Test.YtdmaaigchfgmdaaJM
import Derived.Test.YtdmaaigchfgmdaaShift
namespace Go.Proofs.Ytdmaaigchfgmdaa
open Go Go.RowKit
/-- the time from b to a -/
def sn (a b : Int) : Int := Fx.cl 4611686018427387904 ((a - b + 9223372036854775808) % 18446744073709551616 - 9223372036854775808)
theorem sn_bd (a b : Int) : -4611686018427387904 ≤ sn a b ∧ sn a b ≤ 4611686018427387904 := by unfold sn; exact Fx.cl_bd (by decide) _
theorem cl62 (x : Int) : -4611686018427387904 ≤ Fx.cl 4611686018427387904 x ∧ Fx.cl 4611686018427387904 x ≤ 4611686018427387904 := Fx.cl_bd (by decide) x
theorem run_mxS (a b : Int) (u : World) : (Builtin.max_ #[29, 29] 29 #[.int .i64 a, .int .i64 b]).run Try.prog u = .ok (.int .i64 (max a b)) u := by
  have : (Builtin.max_ #[29, 29] 29 #[.int .i64 a, .int .i64 b]).run Try.prog u = .ok (.int .i64 (if a < b then b else a)) u := by simp [go_sem]
  rw [this]; congr 2; split <;> omega
theorem run_mnS (a b : Int) (u : World) : (Builtin.min_ #[29, 29] 29 #[.int .i64 a, .int .i64 b]).run Try.prog u = .ok (.int .i64 (min a b)) u := by
  have : (Builtin.min_ #[29, 29] 29 #[.int .i64 a, .int .i64 b]).run Try.prog u = .ok (.int .i64 (if b < a then b else a)) u := by simp [go_sem]
  rw [this]; congr 2; split <;> omega
set_option maxHeartbeats 400000 in
theorem clampM_any (a : Int) (w : World) :
    Calls Try.prog 25 #[.int .i64 a, .int .i64 4611686018427387904] w fun e w' => e = .returned (.int .i64 (Fx.cl 4611686018427387904 a)) ∧ w' = w := by
  go_enter Try.func25, Try.ntmps25
  go_wp2_with (go_at_call 44; refine (bound_any _ _ _ (by omega) (by omega)).mono ?_; rintro e w' ⟨rfl, rfl⟩)
  go_ret
  exact ⟨rfl, rfl⟩
set_option maxHeartbeats 400000 in
theorem since_any (a b : Int) (w : World) :
    Calls Try.prog 22 #[.int .u64 a, .int .u64 b] w fun e w' => e = .returned (.int .i64 (sn a b)) ∧ w' = w := by
  go_enter Try.func22, Try.ntmps22
  go_wp2_with (go_at_call 25; refine (clampM_any _ _).mono ?_; rintro e w' ⟨rfl, rfl⟩)
  go_ret
  refine ⟨ret_int' ?_, rfl⟩
  unfold sn
  congr 1
  simp only [IntKind.wrap_u64, wrap64]
  omega
/-- an exchange's offset and delay -/
def exO (org rec xmt dst : Int) : Int := Fx.cl 4611686018427387904 ((sn rec org + sn xmt dst) / 2)
def exD (org rec xmt dst : Int) : Int := max (Fx.cl 4611686018427387904 (sn rec org - sn xmt dst)) 4096
theorem ret_two {k : IntKind} {a b c d : Int} (h : a = b) (h2 : c = d) : Ending.returned (.tuple #[.int k a, .int k c]) = .returned (.tuple #[.int k b, .int k d]) := by rw [h, h2]
theorem below_then {a b c : World} (h : Below a.heap.size a b) (k : Below b.heap.size b c) : Below a.heap.size a c := h.trans (k.mono h.size)
end Go.Proofs.Ytdmaaigchfgmdaa
