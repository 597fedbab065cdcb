/- What Since and ToShort of package stamp return, for every input, and that the document's examples are answered as they are shown. -/
import Derived.Test.YtifaneckfnjgiabStG
import Derived.Test.YtifaneckfnjgiabNum
import Derived.WalkKit
import Derived.WalkSpells
import Derived.WalkLawsBesides
import Derived.Handy
import Derived.Below
namespace Go.Proofs.Ytifaneckfnjgiab
open Go.RowKit
theorem ret_u32 {a b : Int} (h : a = b) : Ending.returned (.int .u32 a) = .returned (.int .u32 b) := by rw [h]
theorem ret_u64 {a b : Int} (h : a = b) : Ending.returned (.int .u64 a) = .returned (.int .u64 b) := by rw [h]
set_option maxHeartbeats 400000 in
theorem bound_any (a m : Int) (w : World) (h0 : 0 ≤ m) (h1 : m ≤ 4611686018427387904) :
    Calls Try.prog 33 #[.int .i64 a, .int .i64 m] w fun e w' => e = .returned (.int .i64 (Fx.cl m a)) ∧ w' = w := by
  go_enter Try.func33, Try.ntmps33
  go_wp2
  all_goals
    go_ret
    exact ⟨ret_i64 (by unfold Fx.cl; split at * <;> omega), rfl⟩
set_option maxHeartbeats 400000 in
theorem clampM_any (a : Int) (w : World) :
    Calls Try.prog 27 #[.int .i64 a, .int .i64 4611686018427387904] w fun e w' => e = .returned (.int .i64 (Fx.cl 4611686018427387904 a)) ∧ w' = w := by
  go_enter Try.func27, Try.ntmps27
  go_wp2_with (go_at_call 33; refine (bound_any _ _ _ (by omega) (by omega)).mono ?_; rintro e w' ⟨rfl, rfl⟩)
  go_ret
  exact ⟨rfl, rfl⟩
/-- how far a lies behind b -/
def sn (a b : Int) : Int := Fx.cl 4611686018427387904 ((a - b + 9223372036854775808) % 18446744073709551616 - 9223372036854775808)
set_option maxHeartbeats 400000 in
theorem since_any (a b : Int) (w : World) :
    Calls Try.prog 15 #[.int .u64 a, .int .u64 b] w fun e w' => e = .returned (.int .i64 (sn a b)) ∧ w' = w := by
  go_enter Try.func15, Try.ntmps15
  go_wp2_with (go_at_call 27; refine (clampM_any _ _).mono ?_; rintro e w' ⟨rfl, rfl⟩)
  go_ret
  refine ⟨ret_i64 ?_, rfl⟩
  unfold sn
  congr 1
  simp only [IntKind.wrap_u64, wrap64]
  omega
/-- the short form of a span -/
def sh (d : Int) : Int := if d ≤ 0 then 0 else min ((d - 1) / 65536 + 1) 4294967295
set_option maxHeartbeats 400000 in
theorem toShort_any (d : Int) (w : World) (d1 : d ≤ 9223372036854775807) :
    Calls Try.prog 16 #[.int .i64 d] w fun e w' => e = .returned (.int .u32 (sh d)) ∧ w' = w := by
  by_cases h : d ≤ 0
  · go_enter Try.func16, Try.ntmps16
    go_wp2
    go_ret
    exact ⟨ret_u32 (by unfold sh; rw [if_pos h]), rfl⟩
  · have h' : 0 < d := by omega
    go_enter Try.func16, Try.ntmps16
    go_wp2
    all_goals
      go_ret
      exact ⟨ret_u32 (by unfold sh; rw [if_neg (by omega)]; (try simp only [IntKind.wrap_u32]); (try split at *) <;> omega), rfl⟩
theorem day_1 : Cal.Day 2036 2 7 := by unfold Cal.Day; decide
theorem time_1 : Cal.Time 6 28 16 := by unfold Cal.Time; decide
theorem of_1 (w : World) : Calls Try.prog 8 #[.agg #[.int .i64 1, .int .u64 0]] w fun e w' => e = .returned (.tuple #[.agg #[.int .i64 2036, .int .i64 2, .int .i64 7, .int .i64 6, .int .i64 28, .int .i64 16, .int .u32 0], .int .i64 0]) ∧ Below w.heap.size w w' := by
  refine (ofDate_yes 1 0 w (by decide) (by decide) (by decide) (by decide)).mono ?_
  rintro e w' ⟨y, m, d, h, n, s, rfl, hd, ht, hs, hb⟩
  obtain ⟨rfl, rfl, rfl, rfl, rfl, rfl⟩ := Cal.sec_one hd ht day_1 time_1 (hs.trans (by decide))
  exact ⟨rfl, hb⟩
theorem day_2 : Cal.Day 1995 1 25 := by unfold Cal.Day; decide
theorem time_2 : Cal.Time 5 20 0 := by unfold Cal.Time; decide
theorem print_1 (w : World) : Calls Try.prog 12 #[.agg #[.int .i64 0, .int .u64 12884901890147483648]] w fun e w' => e = .returned (.tuple #[.string ⟨#[49, 57, 57, 53, 45, 48, 49, 45, 50, 53, 32, 48, 53, 58, 50, 48, 58, 48, 48, 46, 53, 48, 48, 48, 48, 48]⟩, .int .i64 0]) ∧ Below w.heap.size w w' := by
  refine (print_yes 0 12884901890147483648 w (by decide) (by decide) (by decide) (by decide)).mono ?_
  rintro e w' ⟨y, m, d, h, n, s, rfl, hd, ht, hs, hb⟩
  obtain ⟨rfl, rfl, rfl, rfl, rfl, rfl⟩ := Cal.sec_one hd ht day_2 time_2 (hs.trans (by decide))
  refine ⟨ret_eq ?_, hb⟩
  unfold yesP
  rw [show Tx.txt (nums 1995 1 25 5 20 0 (12884901890147483648 % 4294967296 * 1000000 / 4294967296)) = [49, 57, 57, 53, 45, 48, 49, 45, 50, 53, 32, 48, 53, 58, 50, 48, 58, 48, 48, 46, 53, 48, 48, 48, 48, 48] from by decide +kernel]
theorem parse_1 (w : World) : Calls Try.prog 10 #[.string ⟨#[50, 48, 48, 48, 45, 48, 50, 45, 50, 57, 32, 48, 48, 58, 48, 48, 58, 48, 48, 46, 48, 48, 48, 48, 48, 49]⟩] w fun e w' => e = .returned (.tuple #[.agg #[.int .i64 0, .int .u64 13575408934138679495], .int .i64 0]) ∧ Below w.heap.size w w' := by
  refine (parse_good ⟨#[50, 48, 48, 48, 45, 48, 50, 45, 50, 57, 32, 48, 48, 58, 48, 48, 58, 48, 48, 46, 48, 48, 48, 48, 48, 49]⟩ w (okS_of (by decide +kernel))).mono ?_
  rintro e w' ⟨rfl, hb⟩
  rw [show pE (Tx.bt ⟨#[50, 48, 48, 48, 45, 48, 50, 45, 50, 57, 32, 48, 48, 58, 48, 48, 58, 48, 48, 46, 48, 48, 48, 48, 48, 49]⟩) = 0 from by decide +kernel, show pT (Tx.bt ⟨#[50, 48, 48, 48, 45, 48, 50, 45, 50, 57, 32, 48, 48, 58, 48, 48, 58, 48, 48, 46, 48, 48, 48, 48, 48, 49]⟩) = 13575408934138679495 from by decide +kernel, show pC (Tx.bt ⟨#[50, 48, 48, 48, 45, 48, 50, 45, 50, 57, 32, 48, 48, 58, 48, 48, 58, 48, 48, 46, 48, 48, 48, 48, 48, 49]⟩) = 0 from by decide +kernel]
  exact ⟨rfl, hb⟩
theorem since_1 (w : World) : Calls Try.prog 15 #[.int .u64 1, .int .u64 18446744073709551615] w fun e w' => e = .returned (.int .i64 2) ∧ w' = w :=
  (since_any 1 18446744073709551615 w).mono fun _ _ ⟨h1, h2⟩ => ⟨h1.trans (ret_i64 (by decide)), h2⟩
theorem short_1 (w : World) : Calls Try.prog 16 #[.int .i64 65537] w fun e w' => e = .returned (.int .u32 2) ∧ w' = w :=
  (toShort_any 65537 w (by decide)).mono fun _ _ ⟨h1, h2⟩ => ⟨h1.trans (ret_u32 (by decide)), h2⟩
set_option maxHeartbeats 1000000 in
theorem shown_any (w : World) : Calls Try.prog 7 #[] w fun e w' => e = .returned (.bool true) ∧ Below w.heap.size w w' := by
  go_enter Try.func7, Try.ntmps7
  go_wp2_with fail
  refine (of_1 _).mono ?_
  rintro e w1 ⟨rfl, hb1⟩
  go_wp2_with fail
  refine (print_1 _).mono ?_
  rintro e w2 ⟨rfl, hb2⟩
  go_wp2_with fail
  refine (parse_1 _).mono ?_
  rintro e w3 ⟨rfl, hb3⟩
  have hz2 : w1.heap.size < w2.heap.size := by have := hb2.size; simp at this; omega
  have hz3 : w1.heap.size < w3.heap.size := by have := hb3.size; omega
  have c0 : ∀ o, w3.cell? ⟨w1.heap.size, o, none⟩ = (w1.alloc (.cells #[.int .i64 2036, .int .i64 2, .int .i64 7, .int .i64 6, .int .i64 28, .int .i64 16, .int .u32 0] 28)).cell? ⟨w1.heap.size, o, none⟩ := fun o => by
    rw [hb3.cell (by simpa using hz2), hb2.cell (by simp)]
  have hB : Hid (Below w.heap.size w w3) := by
    refine Below.trans hb1 (Below.trans ?_ (hb3.mono ?_))
    · exact Below.trans ((Below.refl _ _).alloc hb1.size _) (hb2.mono (by have := hb1.size; simp; omega))
    · have := hb1.size; omega
  clear hb1 hb2 hb3
  go_wp2_with fail
  refine (since_1 _).mono ?_
  rintro e w4 ⟨rfl, hw⟩
  subst hw
  go_wp2_with fail
  refine (short_1 _).mono ?_
  rintro e w5 ⟨rfl, hw⟩
  subst hw
  go_wp2
  have hz := hB.out.size
  go_ret
  exact ⟨rfl, (by repeat' (first | with_reducible exact Below.refl _ _ | with_reducible exact hB.out | with_reducible refine Below.setCell ?_ (by first | (simp; done) | (simp; omega) | omega) _ | with_reducible refine below_drewN ?_ _ | with_reducible refine Below.drew ?_ | with_reducible refine Below.alloc ?_ (by first | (simp; done) | (simp; omega) | omega) _))⟩
end Go.Proofs.Ytifaneckfnjgiab
