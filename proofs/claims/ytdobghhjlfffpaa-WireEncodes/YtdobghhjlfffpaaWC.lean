/- What the small functions of package wire return: within, versionFits, digestFits, digestSize, filled, flags, controlFits, CheckControl. -/
import Derived.Test.YtdobghhjlfffpaaWB
namespace Go.Proofs.Ytdobghhjlfffpaa
open Go.RowKit
theorem ret_i64 {a b : Int} (h : a = b) : Ending.returned (.int .i64 a) = .returned (.int .i64 b) := by rw [h]
theorem ret_bool' {a b : Bool} (h : a = b) : Ending.returned (.bool a) = .returned (.bool b) := by rw [h]
def wiB (n a b : Int) : Bool := decide (a ≤ n ∧ n ≤ b)
theorem wiB_t {n a b : Int} (h : a ≤ n ∧ n ≤ b) : wiB n a b = true := by unfold wiB; exact decide_eq_true h
theorem wiB_f {n a b : Int} (h : ¬ (a ≤ n ∧ n ≤ b)) : wiB n a b = false := by unfold wiB; exact decide_eq_false h
theorem wiB_iff {n a b : Int} : wiB n a b = true ↔ a ≤ n ∧ n ≤ b := by unfold wiB; exact decide_eq_true_iff
set_option maxHeartbeats 400000 in
theorem within_any (n a b : Int) (w : World) :
    Calls Try.prog 49 #[.int .i64 n, .int .i64 a, .int .i64 b] w fun e w' => e = .returned (.bool (wiB n a b)) ∧ w' = w := by
  go_enter Try.func49, Try.ntmps49
  go_wp2
  all_goals
    go_ret
    exact ⟨ret_bool' (by unfold wiB; rw [Bool.eq_iff_iff]; simp at *; omega), rfl⟩
set_option maxHeartbeats 400000 in
theorem versionFits_any (n : Int) (w : World) :
    Calls Try.prog 36 #[.int .i64 n] w fun e w' => e = .returned (.bool (wiB n 1 4)) ∧ w' = w := by
  go_enter Try.func36, Try.ntmps36
  go_wp2_with (go_at_call 49; refine (within_any _ _ _ _).mono ?_; rintro e w' ⟨rfl, rfl⟩)
  go_ret
  exact ⟨rfl, rfl⟩
/-- may a key and a digest of so many bytes be? -/
def dfB (key : Int) (n : Nat) : Bool := if n = 0 then key == 0 else if n = 16 ∨ n = 20 then wiB key 1 65535 else false
set_option maxHeartbeats 400000 in
theorem digestFits_any (key : Int) (ao : Option Addr) (n cap : Nat) (w : World) :
    Calls Try.prog 31 #[.int .i64 key, .slice ao n cap] w fun e w' => e = .returned (.bool (dfB key n)) ∧ w' = w := by
  by_cases h0 : n = 0
  · subst h0
    go_enter Try.func31, Try.ntmps31
    go_wp2
    go_ret
    exact ⟨rfl, rfl⟩
  by_cases h1 : n = 16
  · subst h1
    go_enter Try.func31, Try.ntmps31
    go_wp2_with (go_at_call 49; refine (within_any _ _ _ _).mono ?_; rintro e w' ⟨rfl, rfl⟩)
    go_ret
    exact ⟨rfl, rfl⟩
  by_cases h2 : n = 20
  · subst h2
    go_enter Try.func31, Try.ntmps31
    go_wp2_with (go_at_call 49; refine (within_any _ _ _ _).mono ?_; rintro e w' ⟨rfl, rfl⟩)
    go_ret
    exact ⟨rfl, rfl⟩
  · have b0 : ((n : Int) == 0) = false := by rw [beq_eq_false_iff_ne]; omega
    have b1 : ((n : Int) == 16) = false := by rw [beq_eq_false_iff_ne]; omega
    have b2 : ((n : Int) == 20) = false := by rw [beq_eq_false_iff_ne]; omega
    have HD : Hid (dfB key n = false) := by show _ = _; unfold dfB; rw [if_neg h0, if_neg (by omega)]
    clear h0 h1 h2
    go_enter Try.func31, Try.ntmps31
    go_wp2
    go_ret
    exact ⟨ret_bool' HD.out.symm, rfl⟩
/-- how many bytes a key and its digest have -/
def dsz (key : Int) (n : Nat) : Int := if key = 0 then 0 else 4 + n
set_option maxHeartbeats 400000 in
theorem digestSize_any (key : Int) (ao : Option Addr) (n cap : Nat) (w : World) (hn : (n : Int) ≤ 140737488355328) :
    Calls Try.prog 55 #[.int .i64 key, .slice ao n cap] w fun e w' => e = .returned (.int .i64 (dsz key n)) ∧ w' = w := by
  by_cases hz : key = 0
  · subst hz
    go_enter Try.func55, Try.ntmps55
    go_wp2
    go_ret
    exact ⟨rfl, rfl⟩
  · have hb : (key == 0) = false := by rw [beq_eq_false_iff_ne]; exact hz
    go_enter Try.func55, Try.ntmps55
    go_wp2
    go_ret
    exact ⟨ret_i64 (by unfold dsz; rw [if_neg hz]), rfl⟩
/-- bytes with those that fill -/
def fil (n : Int) : Int := (n + 3) / 4 * 4
set_option maxHeartbeats 400000 in
theorem filled_any (n : Int) (w : World) (h0 : 0 ≤ n) (h1 : n ≤ 140737488355328) :
    Calls Try.prog 58 #[.int .i64 n] w fun e w' => e = .returned (.int .i64 (fil n)) ∧ w' = w := by
  go_enter Try.func58, Try.ntmps58
  go_wp2
  go_ret
  refine ⟨ret_i64 ?_, rfl⟩
  unfold fil
  omega

theorem fil_le (n : Nat) : (n : Int) ≤ fil n ∧ fil n ≤ (n : Int) + 3 := by unfold fil; omega
theorem dsz_le (key : Int) (n : Nat) : 0 ≤ dsz key n ∧ dsz key n ≤ 4 + n := by unfold dsz; split <;> omega
end Go.Proofs.Ytdobghhjlfffpaa
