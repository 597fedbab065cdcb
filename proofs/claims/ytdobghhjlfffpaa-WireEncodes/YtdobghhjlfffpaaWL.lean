/- What the reference's within, digest, padded and CheckControl return. -/
import Derived.Test.YtdobghhjlfffpaaWD
namespace Go.Proofs.Ytdobghhjlfffpaa
open Go.RowKit
set_option maxHeartbeats 400000 in
theorem rwithin_any (n a b : Int) (w : World) :
    Calls Try.prog 41 #[.int .i64 n, .int .i64 a, .int .i64 b] w fun e w' => e = .returned (.bool (wiB n a b)) ∧ w' = w := by
  go_enter Try.func41, Try.ntmps41
  go_wp2
  all_goals
    go_ret
    exact ⟨ret_bool' (by unfold wiB; rw [Bool.eq_iff_iff]; simp at *; omega), rfl⟩
theorem wi_zero : wiB 0 1 65535 = false := by decide
set_option maxHeartbeats 1000000 in
theorem rdigest_any (key : Int) (ao : Option Addr) (n cap : Nat) (w : World) :
    Calls Try.prog 48 #[.int .i64 key, .slice ao n cap] w fun e w' => e = .returned (.bool (dfB key n)) ∧ w' = w := by
  by_cases hz : key = 0
  · subst hz
    by_cases h0 : n = 0
    · subst h0
      go_enter Try.func48, Try.ntmps48
      go_wp2
      go_ret
      exact ⟨rfl, rfl⟩
    · have b0 : ((n : Int) == 0) = false := by rw [beq_eq_false_iff_ne]; omega
      have HD : Hid (dfB 0 n = false) := by show _ = _; unfold dfB; rw [if_neg h0, wi_zero]; split <;> rfl
      clear h0
      go_enter Try.func48, Try.ntmps48
      go_wp2
      go_ret
      exact ⟨ret_bool' HD.out.symm, rfl⟩
  · have hb : (key == 0) = false := by rw [beq_eq_false_iff_ne]; exact hz
    obtain ⟨W, hW⟩ : ∃ W, W = wiB key 1 65535 := ⟨_, rfl⟩
    have HW : Hid (∀ w, Calls Try.prog 41 #[.int .i64 key, .int .i64 1, .int .i64 65535] w fun e w' => e = .returned (.bool W) ∧ w' = w) := fun w => by rw [hW]; exact rwithin_any key 1 65535 w
    have HWW : Hid (W = wiB key 1 65535) := hW
    clear hW
    by_cases h1 : n = 16
    · subst h1
      have HD : Hid (dfB key 16 = W) := by show _ = _; rw [HWW.out]; rfl
      cases W
      all_goals
        go_enter Try.func48, Try.ntmps48
        go_wp2_with (go_at_call 41; refine (HW.out _).mono ?_; rintro e' w' ⟨rfl, hw⟩; rw [hw]; clear hw)
        go_ret
        exact ⟨ret_bool' HD.out.symm, rfl⟩
    by_cases h2 : n = 20
    · subst h2
      have HD : Hid (dfB key 20 = W) := by show _ = _; rw [HWW.out]; rfl
      cases W
      all_goals
        go_enter Try.func48, Try.ntmps48
        go_wp2_with (go_at_call 41; refine (HW.out _).mono ?_; rintro e' w' ⟨rfl, hw⟩; rw [hw]; clear hw)
        go_ret
        exact ⟨ret_bool' HD.out.symm, rfl⟩
    · have b1 : ((n : Int) == 16) = false := by rw [beq_eq_false_iff_ne]; omega
      have b2 : ((n : Int) == 20) = false := by rw [beq_eq_false_iff_ne]; omega
      have HD : Hid (dfB key n = false) := by
        show _ = _
        unfold dfB
        split
        · exact hb
        · rw [if_neg (by omega)]
      clear h1 h2 hz
      cases W
      all_goals
        go_enter Try.func48, Try.ntmps48
        go_wp2_with (go_at_call 41; refine (HW.out _).mono ?_; rintro e' w' ⟨rfl, hw⟩; rw [hw]; clear hw)
        go_ret
        exact ⟨ret_bool' HD.out.symm, rfl⟩
theorem sz_eq (dn : Nat) (S : Int) (hS : 0 ≤ S) : (512 < 12 + fil dn + S) ↔ (512 < 12 + fil (min (dn : Int) 65536) + S) := by unfold fil; omega
end Go.Proofs.Ytdobghhjlfffpaa
