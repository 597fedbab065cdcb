/- What the small functions of package stamp return, for every input: isLeap, daysBefore, isWithin, monthDays, isDay, isTime. -/
import Derived.Test.YthoilihokbakoaaDoorRows
import Derived.Test.YthoilihokbakoaaDoorCal
import Derived.WalkKit
import Derived.WalkSpells
import Derived.WalkLawsBesides
import Derived.Handy
import Derived.Below
namespace Go.Proofs.YthoilihokbakoaaDoor
open Go.RowKit
theorem ret_i64 {a b : Int} (h : a = b) : Ending.returned (.int .i64 a) = .returned (.int .i64 b) := by rw [h]
theorem ret_bool' {a b : Bool} (h : a = b) : Ending.returned (.bool a) = .returned (.bool b) := by rw [h]
set_option maxHeartbeats 400000 in
theorem isLeap_any (y : Int) (w : World) (h0 : 0 ≤ y) (h1 : y ≤ 1000000) :
    Calls Tryd.prog 50 #[.int .i64 y] w fun e w' => e = .returned (.bool (Cal.lpB y)) ∧ w' = w := by
  go_enter Tryd.func50, Tryd.ntmps50
  go_wp2
  all_goals
    go_ret
    exact ⟨ret_bool' (by rw [Bool.eq_iff_iff]; simp [Cal.lpB] at *; omega), rfl⟩
set_option maxHeartbeats 400000 in
theorem daysBefore_any (y : Int) (w : World) (h0 : 1 ≤ y) (h1 : y ≤ 1000000) :
    Calls Tryd.prog 38 #[.int .i64 y] w fun e w' => e = .returned (.int .i64 (Cal.db y)) ∧ w' = w := by
  go_enter Tryd.func38, Tryd.ntmps38
  go_wp2
  go_ret
  exact ⟨ret_i64 (by unfold Cal.db; omega), rfl⟩
def wiB (n a b : Int) : Bool := decide (a ≤ n ∧ n ≤ b)
set_option maxHeartbeats 400000 in
theorem isWithin_any (n a b : Int) (w : World) :
    Calls Tryd.prog 49 #[.int .i64 n, .int .i64 a, .int .i64 b] w fun e w' => e = .returned (.bool (wiB n a b)) ∧ w' = w := by
  by_cases h : a ≤ n
  all_goals
    go_enter Tryd.func49, Tryd.ntmps49
    go_wp2
    go_ret
    exact ⟨ret_bool' (by rw [Bool.eq_iff_iff]; simp [wiB]; omega), rfl⟩
theorem wi_t {n a b : Int} (h : a ≤ n ∧ n ≤ b) : wiB n a b = true := by simp [wiB, h]
theorem wi_f {n a b : Int} (h : ¬ (a ≤ n ∧ n ≤ b)) : wiB n a b = false := by simp only [wiB, decide_eq_false_iff_not]; exact h
set_option maxHeartbeats 400000 in
theorem monthDays_any (y m : Int) (w : World) (h0 : 0 ≤ y) (h1 : y ≤ 1000000) (m0 : 1 ≤ m) (m1 : m ≤ 12) :
    Calls Tryd.prog 39 #[.int .i64 y, .int .i64 m] w fun e w' => e = .returned (.int .i64 (Cal.dim y m)) ∧ Below w.heap.size w w' := by
  rcases Cal.month_cases m0 m1 with rfl | rfl | rfl | rfl | rfl | rfl | rfl | rfl | rfl | rfl | rfl | rfl
  all_goals
    go_enter Tryd.func39, Tryd.ntmps39
    go_wp2_with (go_at_call 50; refine (isLeap_any _ _ (by omega) (by omega)).mono ?_; rintro e w' ⟨rfl, rfl⟩)
    all_goals
      go_ret
      refine ⟨ret_i64 ?_, (Below.refl _ _).alloc (Nat.le_refl _) _⟩
      first
        | rfl
        | (rename_i hl; simp [Cal.dim, Cal.lp_t hl]; done)
        | (rename_i hl; simp [Cal.dim, Cal.lp_f hl]; done)
end Go.Proofs.YthoilihokbakoaaDoor
