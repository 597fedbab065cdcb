/- What Plus and FromShort of package stamp return, and the reference's Since, Plus, ToShort, FromShort. -/
import Derived.Test.YtifaneckfnjgiaaStH
import Derived.WalkKit
import Derived.WalkSpells
import Derived.WalkLawsBesides
import Derived.Handy
import Derived.Below
namespace Go.Proofs.Ytifaneckfnjgiaa
open Go.RowKit
/-- a stamp so far behind another one -/
def pl (t d : Int) : Int := (t + d) % 18446744073709551616
set_option maxHeartbeats 400000 in
theorem plus_any (t d : Int) (w : World) :
    Calls Try.prog 12 #[.int .u64 t, .int .i64 d] w fun e w' => e = .returned (.int .u64 (pl t d)) ∧ w' = w := by
  go_enter Try.func12, Try.ntmps12
  go_wp2
  go_ret
  exact ⟨ret_u64 (by unfold pl; simp only [IntKind.wrap_u64]; omega), rfl⟩
set_option maxHeartbeats 400000 in
theorem rplus_any (t d : Int) (w : World) :
    Calls Try.prog 13 #[.int .u64 t, .int .i64 d] w fun e w' => e = .returned (.int .u64 (pl t d)) ∧ w' = w := by
  go_enter Try.func13, Try.ntmps13
  go_wp2
  go_ret
  exact ⟨ret_u64 (by unfold pl; simp only [IntKind.wrap_u64]; omega), rfl⟩
set_option maxHeartbeats 400000 in
theorem fromShort_any (n : Int) (w : World) (n0 : 0 ≤ n) (n1 : n < 4294967296) :
    Calls Try.prog 15 #[.int .u32 n] w fun e w' => e = .returned (.int .i64 (n * 65536)) ∧ w' = w := by
  go_enter Try.func15, Try.ntmps15
  go_wp2
  go_ret
  exact ⟨rfl, rfl⟩
set_option maxHeartbeats 400000 in
theorem rfromShort_any (n : Int) (w : World) (n0 : 0 ≤ n) (n1 : n < 4294967296) :
    Calls Try.prog 17 #[.int .u32 n] w fun e w' => e = .returned (.int .i64 (n * 65536)) ∧ w' = w := by
  go_enter Try.func17, Try.ntmps17
  go_wp2
  go_ret
  exact ⟨rfl, rfl⟩
set_option maxHeartbeats 400000 in
theorem rcut_any (a : Int) (w : World) :
    Calls Try.prog 28 #[.int .i64 a] w fun e w' => e = .returned (.int .i64 (Fx.cl 4611686018427387904 a)) ∧ w' = w := by
  go_enter Try.func28, Try.ntmps28
  go_wp2
  all_goals
    go_ret
    exact ⟨ret_i64 (by unfold Fx.cl; split at * <;> omega), rfl⟩
set_option maxHeartbeats 400000 in
theorem rsince_any (a b : Int) (w : World) :
    Calls Try.prog 11 #[.int .u64 a, .int .u64 b] w fun e w' => e = .returned (.int .i64 (sn a b)) ∧ w' = w := by
  go_enter Try.func11, Try.ntmps11
  go_wp2_with (go_at_call 28; refine (rcut_any _ _).mono ?_; rintro e w' ⟨rfl, rfl⟩)
  go_ret
  refine ⟨ret_i64 ?_, rfl⟩
  unfold sn
  congr 1
  simp only [IntKind.wrap_u64, wrap64]
  omega
set_option maxHeartbeats 400000 in
theorem rtoShort_any (d : Int) (w : World) (d1 : d ≤ 9223372036854775807) :
    Calls Try.prog 16 #[.int .i64 d] w fun e w' => e = .returned (.int .u32 (sh d)) ∧ w' = w := by
  by_cases h : d ≤ 0
  · go_enter Try.func16, Try.ntmps16
    go_wp2
    go_ret
    exact ⟨ret_u32 (by unfold sh; rw [if_pos h]), rfl⟩
  · have h' : 0 < d := by omega
    by_cases hm : d % 65536 = 0
    · have hb : (d / 65536 * 65536 != d) = false := by rw [bne_eq_false_iff_eq]; omega
      have HM : Hid (d % 65536 = 0) := hm
      clear hm
      go_enter Try.func16, Try.ntmps16
      go_wp2
      all_goals
        have hm := HM.out
        go_ret
        exact ⟨ret_u32 (by unfold sh; rw [if_neg (by omega)]; (try simp only [IntKind.wrap_u32]); (try split at *) <;> omega), rfl⟩
    · have hb : (d / 65536 * 65536 != d) = true := by rw [bne_iff_ne]; omega
      have HM : Hid (¬ d % 65536 = 0) := hm
      clear hm
      go_enter Try.func16, Try.ntmps16
      go_wp2
      all_goals
        have hm := HM.out
        go_ret
        exact ⟨ret_u32 (by unfold sh; rw [if_neg (by omega)]; (try simp only [IntKind.wrap_u32]); (try split at *) <;> omega), rfl⟩
set_option maxHeartbeats 1000000 in
theorem StampSpans_walk (a0 a1 a2 : Int) (_w0 : (Lit.int .u64 a0).wf = true) (_w1 : (Lit.int .u64 a1).wf = true) (_w2 : (Lit.int .i64 a2).wf = true) (w : World) :
    Calls Try.prog 3 #[.int .u64 a0, .int .u64 a1, .int .i64 a2] w fun e w' => e = .returned (.bool true) ∧ Below w.heap.size w w' := by
  go_enter Try.func3, Try.ntmps3
  go_wp2_with fail
  refine (shown_any _).mono ?_
  rintro e w1 ⟨rfl, hb⟩
  have hB : Hid (Below w.heap.size w w1) := hb
  clear hb
  go_wp2_with fail
  refine (since_any _ _ _).mono ?_
  rintro e w2 ⟨rfl, rfl⟩
  go_wp2_with fail
  refine (rsince_any _ _ _).mono ?_
  rintro e w2 ⟨rfl, rfl⟩
  go_wp2_with fail
  refine (plus_any _ _ _).mono ?_
  rintro e w2 ⟨rfl, rfl⟩
  go_wp2_with fail
  refine (rplus_any _ _ _).mono ?_
  rintro e w2 ⟨rfl, rfl⟩
  go_wp2
  go_ret
  exact ⟨ret_bool' (by simp), hB.out⟩
set_option maxHeartbeats 1000000 in
theorem StampSince_walk (a0 a1 : Int) (w0 : (Lit.int .u64 a0).wf = true) (w1 : (Lit.int .i64 a1).wf = true) (w : World) :
    Calls Try.prog 4 #[.int .u64 a0, .int .i64 a1] w fun e w' => e = .returned (.bool true) ∧ Below w.heap.size w w' := by
  obtain ⟨a00, a01⟩ := bounds_u64 w0
  obtain ⟨a10, a11⟩ := bounds_i64 w1
  clear w0 w1
  by_cases h1 : 4611686018427387904 < a1
  · go_enter Try.func4, Try.ntmps4
    go_wp2_with fail
    refine (shown_any _).mono ?_
    rintro e w1 ⟨rfl, hb⟩
    go_wp2
    go_ret
    exact ⟨rfl, hb⟩
  by_cases h2 : a1 < -4611686018427387904
  · go_enter Try.func4, Try.ntmps4
    go_wp2_with fail
    refine (shown_any _).mono ?_
    rintro e w1 ⟨rfl, hb⟩
    go_wp2
    go_ret
    exact ⟨rfl, hb⟩
  have e1 : sn (pl a0 a1) a0 = a1 := by unfold sn pl Fx.cl; omega
  have e2 : sn a0 (pl a0 a1) = -a1 := by unfold sn pl Fx.cl; omega
  have e3 : pl (pl a0 a1) (-a1) = a0 := by unfold pl; omega
  go_enter Try.func4, Try.ntmps4
  go_wp2_with fail
  refine (shown_any _).mono ?_
  rintro e w1 ⟨rfl, hb⟩
  have hB : Hid (Below w.heap.size w w1) := hb
  clear hb
  go_wp2_with fail
  refine (plus_any _ _ _).mono ?_
  rintro e w2 ⟨rfl, rfl⟩
  go_wp2_with fail
  refine (since_any _ _ _).mono ?_
  rintro e w2 ⟨rfl, rfl⟩
  rw [e1]
  go_wp2_with fail
  refine (since_any _ _ _).mono ?_
  rintro e w2 ⟨rfl, rfl⟩
  rw [e2]
  go_wp2_with fail
  refine (plus_any _ _ _).mono ?_
  rintro e w2 ⟨rfl, rfl⟩
  rw [e3]
  go_wp2
  go_ret
  exact ⟨ret_bool' (by simp), hB.out⟩
theorem sh_bd (d : Int) : 0 ≤ sh d ∧ sh d ≤ 4294967295 := by unfold sh; split <;> omega
theorem sh_back (n : Int) (h0 : 0 ≤ n) (h1 : n ≤ 4294967295) : sh (n * 65536) = n := by unfold sh; split <;> omega
theorem sh_up (d : Int) (h0 : ¬ d ≤ 0) (h : sh d ≠ 4294967295) : d ≤ sh d * 65536 ∧ sh d * 65536 - d < 65536 := by unfold sh at *; rw [if_neg h0] at *; omega
theorem sh_0 (d : Int) (h0 : d ≤ 0) : sh d = 0 := by unfold sh; rw [if_pos h0]
set_option maxHeartbeats 1000000 in
theorem short_walk (a0 a1 S : Int) (w : World) (a00 : -9223372036854775808 ≤ a0) (a01 : a0 ≤ 9223372036854775807) (a10 : 0 ≤ a1) (a11 : a1 ≤ 4294967295) (HS : Hid (sh a0 = S)) (s0 : 0 ≤ S) (s1 : S ≤ 4294967295) (HN : Hid (sh (a1 * 65536) = a1))
    (hc : (a0 ≤ 0 ∧ S = 0) ∨ (0 < a0 ∧ S = 4294967295) ∨ (0 < a0 ∧ S < 4294967295 ∧ a0 ≤ S * 65536 ∧ S * 65536 - a0 < 65536)) :
    Calls Try.prog 5 #[.int .i64 a0, .int .u32 a1] w fun e w' => e = .returned (.bool true) ∧ Below w.heap.size w w' := by
  rcases hc with ⟨c1, rfl⟩ | ⟨c1, rfl⟩ | ⟨c1, c2, c3, c4⟩
  · go_enter Try.func5, Try.ntmps5
    go_wp2_with fail
    refine (shown_any _).mono ?_
    rintro e w1 ⟨rfl, hb⟩
    have hB : Hid (Below w.heap.size w w1) := hb
    clear hb
    go_wp2_with fail
    refine (toShort_any _ _ a01).mono ?_
    rintro e w2 ⟨rfl, rfl⟩
    rw [HS.out]
    go_wp2_with fail
    refine (fromShort_any _ _ s0 (by omega)).mono ?_
    rintro e w2 ⟨rfl, rfl⟩
    go_wp2_with fail
    refine (rtoShort_any _ _ a01).mono ?_
    rintro e w2 ⟨rfl, rfl⟩
    rw [HS.out]
    go_wp2_with fail
    refine (fromShort_any _ _ a10 (by omega)).mono ?_
    rintro e w2 ⟨rfl, rfl⟩
    go_wp2_with fail
    refine (rfromShort_any _ _ a10 (by omega)).mono ?_
    rintro e w2 ⟨rfl, rfl⟩
    go_wp2_with fail
    refine (fromShort_any _ _ a10 (by omega)).mono ?_
    rintro e w2 ⟨rfl, rfl⟩
    go_wp2_with fail
    refine (toShort_any _ _ (by omega)).mono ?_
    rintro e w2 ⟨rfl, rfl⟩
    rw [HN.out]
    go_wp2
    all_goals
      go_ret
      exact ⟨ret_bool' (by simp; try omega), hB.out⟩
  · go_enter Try.func5, Try.ntmps5
    go_wp2_with fail
    refine (shown_any _).mono ?_
    rintro e w1 ⟨rfl, hb⟩
    have hB : Hid (Below w.heap.size w w1) := hb
    clear hb
    go_wp2_with fail
    refine (toShort_any _ _ a01).mono ?_
    rintro e w2 ⟨rfl, rfl⟩
    rw [HS.out]
    go_wp2_with fail
    refine (fromShort_any _ _ s0 (by omega)).mono ?_
    rintro e w2 ⟨rfl, rfl⟩
    go_wp2_with fail
    refine (rtoShort_any _ _ a01).mono ?_
    rintro e w2 ⟨rfl, rfl⟩
    rw [HS.out]
    go_wp2_with fail
    refine (fromShort_any _ _ a10 (by omega)).mono ?_
    rintro e w2 ⟨rfl, rfl⟩
    go_wp2_with fail
    refine (rfromShort_any _ _ a10 (by omega)).mono ?_
    rintro e w2 ⟨rfl, rfl⟩
    go_wp2_with fail
    refine (fromShort_any _ _ a10 (by omega)).mono ?_
    rintro e w2 ⟨rfl, rfl⟩
    go_wp2_with fail
    refine (toShort_any _ _ (by omega)).mono ?_
    rintro e w2 ⟨rfl, rfl⟩
    rw [HN.out]
    go_wp2
    all_goals
      go_ret
      exact ⟨ret_bool' (by simp; try omega), hB.out⟩
  · have hne : (S == 4294967295) = false := by rw [beq_eq_false_iff_ne]; omega
    go_enter Try.func5, Try.ntmps5
    go_wp2_with fail
    refine (shown_any _).mono ?_
    rintro e w1 ⟨rfl, hb⟩
    have hB : Hid (Below w.heap.size w w1) := hb
    clear hb
    go_wp2_with fail
    refine (toShort_any _ _ a01).mono ?_
    rintro e w2 ⟨rfl, rfl⟩
    rw [HS.out]
    go_wp2_with fail
    refine (fromShort_any _ _ s0 (by omega)).mono ?_
    rintro e w2 ⟨rfl, rfl⟩
    go_wp2_with fail
    refine (rtoShort_any _ _ a01).mono ?_
    rintro e w2 ⟨rfl, rfl⟩
    rw [HS.out]
    go_wp2_with fail
    refine (fromShort_any _ _ a10 (by omega)).mono ?_
    rintro e w2 ⟨rfl, rfl⟩
    go_wp2_with fail
    refine (rfromShort_any _ _ a10 (by omega)).mono ?_
    rintro e w2 ⟨rfl, rfl⟩
    go_wp2_with fail
    refine (fromShort_any _ _ a10 (by omega)).mono ?_
    rintro e w2 ⟨rfl, rfl⟩
    go_wp2_with fail
    refine (toShort_any _ _ (by omega)).mono ?_
    rintro e w2 ⟨rfl, rfl⟩
    rw [HN.out]
    go_wp2
    all_goals
      go_ret
      exact ⟨ret_bool' (by simp; try omega), hB.out⟩
theorem StampShort_walk (a0 a1 : Int) (w0 : (Lit.int .i64 a0).wf = true) (w1 : (Lit.int .u32 a1).wf = true) (w : World) :
    Calls Try.prog 5 #[.int .i64 a0, .int .u32 a1] w fun e w' => e = .returned (.bool true) ∧ Below w.heap.size w w' := by
  obtain ⟨a00, a01⟩ := bounds_i64 w0
  obtain ⟨a10, a11⟩ := bounds_u32 w1
  have hb := sh_bd a0
  refine short_walk a0 a1 (sh a0) w a00 a01 a10 (by omega) rfl hb.1 hb.2 (sh_back a1 a10 (by omega)) ?_
  by_cases h0 : a0 ≤ 0
  · exact Or.inl ⟨h0, sh_0 a0 h0⟩
  · by_cases h1 : sh a0 = 4294967295
    · exact Or.inr (Or.inl ⟨by omega, h1⟩)
    · have := sh_up a0 h0 h1
      exact Or.inr (Or.inr ⟨by omega, by omega, this.1, this.2⟩)
end Go.Proofs.Ytifaneckfnjgiaa
