/- What Root of package fixed returns: the greatest whole number whose square is at most the number times 2^32; 0 where the number is not above 0. -/
import Derived.Test.YtofpiagiadgklaaRoot
import Derived.WalkKit
import Derived.ProofKit
import Derived.WalkSpells
import Derived.WalkLawsBesides
namespace Go.Proofs.Ytofpiagiadgklaa
open Go.RowKit
theorem sq_lt (F A : Nat) (h : F * F ≤ A * 4294967296) (hA : A < 9223372036854775808) : F < 9223372036854775808 := by
  refine Nat.lt_of_not_le fun x => ?_
  have := Nat.mul_le_mul x x
  omega
set_option maxHeartbeats 400000 in
theorem Root_pos (a : Int) (A : Nat) (eA : Hid (a = (A : Int))) (w : World) (h0 : 0 < a) (h1 : a ≤ 9223372036854775807) :
    Calls Try.prog 30 #[.int .i64 a] w fun e w' => ∃ F : Nat, e = .returned (.int .i64 F) ∧ F * F ≤ A * 4294967296 ∧ A * 4294967296 < (F + 1) * (F + 1) ∧ F < 9223372036854775808 ∧ Grown w w' := by
  have hA : A < 9223372036854775808 := by have := eA.out; omega
  have hA' : Hid (A < 9223372036854775808) := hA
  clear hA
  go_enter Try.func30, Try.ntmps30
  go_wp2_with fail
  refine (mul64_int a 4294967296 A 4294967296 eA.out rfl _ (by have := hA'.out; omega) (by omega)).mono ?_
  rintro e w1 ⟨rfl, hw1⟩
  subst hw1
  obtain ⟨th, hth, th0⟩ := nat_int (A * 4294967296 / 18446744073709551616)
  obtain ⟨tl, htl, tl0⟩ := nat_int (A * 4294967296 % 18446744073709551616)
  rw [← hth, ← htl]
  have hth' : Hid (th = ((A * 4294967296 / 18446744073709551616 : Nat) : Int)) := hth
  have htl' : Hid (tl = ((A * 4294967296 % 18446744073709551616 : Nat) : Int)) := htl
  clear hth htl
  go_wp2_with fail
  refine (root_any th tl _ _ hth'.out htl'.out _ (by have := hA'.out; omega) (by omega)).mono ?_
  rintro e w2 ⟨F, rfl, f1, f2, f3, hg⟩
  rw [Fx.words] at f1 f2
  have f4 : F < 9223372036854775808 := sq_lt F A f1 hA'.out
  obtain ⟨fi, hfi, fi0⟩ := nat_int F
  have hfi' : Hid (fi = (F : Int)) := hfi
  rw [← hfi]
  have f5 : fi < 9223372036854775808 := by omega
  have ff : Hid (F * F ≤ A * 4294967296 ∧ A * 4294967296 < (F + 1) * (F + 1) ∧ F < 9223372036854775808) := ⟨f1, f2, f4⟩
  have hg' : Hid (Grown w1 w2) := hg
  clear hfi f1 f2 f3 f4 hg
  go_wp2
  go_ret
  exact ⟨F, ret_i64 hfi'.out, ff.out.1, ff.out.2.1, ff.out.2.2, hg'.out⟩
set_option maxHeartbeats 400000 in
theorem Root_zero (a : Int) (w : World) (h0 : a ≤ 0) :
    Calls Try.prog 30 #[.int .i64 a] w fun e w' => e = .returned (.int .i64 0) ∧ w' = w := by
  go_enter Try.func30, Try.ntmps30
  go_wp2
  go_ret
  exact ⟨rfl, rfl⟩
end Go.Proofs.Ytofpiagiadgklaa
