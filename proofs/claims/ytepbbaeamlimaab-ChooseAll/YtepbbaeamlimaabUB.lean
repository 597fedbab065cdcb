/- choose: who counts, who fits, the ends of a candidate; the reference's down, less. -/
import Derived.Test.YtepbbaeamlimaabUA
namespace Go.Proofs.Ytepbbaeamlimaab
open Go Go.RowKit Go.Sort Ch
set_option linter.unusedVariables false
set_option maxHeartbeats 400000 in
theorem counts_any (c : Cn) (w : World) : Calls Try.prog 23 #[.agg (cnL c).toArray] w fun e w' => e = .returned (.bool (ct c)) ∧ Below w.heap.size w w' := by
  obtain ⟨ci, co, cd, cj, cs, cp, cu⟩ := c
  go_enter Try.func23, Try.ntmps23
  refine post_hid fun Q hQ => ?_
  refine seq_hid fun R hR => ?_
  go_wp2_with (refine step_boxL (by rfl) 25 _ rfl (cnL ⟨ci, co, cd, cj, cs, cp, cu⟩).toArray (by rfl) (fun u => by kernel_rfl) ?_; intro W g H1)
  have c1 : W.cell? ⟨g, 1, none⟩ = some (.int .i64 co) := H1.out.bk.cell 1
  have c2 : W.cell? ⟨g, 2, none⟩ = some (.int .i64 cd) := H1.out.bk.cell 2
  have HB : Hid (Below w.heap.size w W) := H1.out.be
  clear H1
  rw [hR.out]
  clear hR
  go_wp2_with fail
  all_goals
    rw [hQ.out]
    go_ret
    refine ⟨ret_bool' ?_, HB.out⟩
    unfold ct
    first | (simp; omega) | (symm; simp; omega) | simp_all
set_option maxHeartbeats 400000 in
theorem rcounts_any (c : Cn) (w : World) : Calls Try.prog 22 #[.agg (cnL c).toArray] w fun e w' => e = .returned (.bool (ct c)) ∧ Below w.heap.size w w' := by
  obtain ⟨ci, co, cd, cj, cs, cp, cu⟩ := c
  go_enter Try.func22, Try.ntmps22
  refine post_hid fun Q hQ => ?_
  refine seq_hid fun R hR => ?_
  go_wp2_with (refine step_boxL (by rfl) 25 _ rfl (cnL ⟨ci, co, cd, cj, cs, cp, cu⟩).toArray (by rfl) (fun u => by kernel_rfl) ?_; intro W g H1)
  have c1 : W.cell? ⟨g, 1, none⟩ = some (.int .i64 co) := H1.out.bk.cell 1
  have c2 : W.cell? ⟨g, 2, none⟩ = some (.int .i64 cd) := H1.out.bk.cell 2
  have HB : Hid (Below w.heap.size w W) := H1.out.be
  clear H1
  rw [hR.out]
  clear hR
  go_wp2_with fail
  all_goals
    rw [hQ.out]
    go_ret
    refine ⟨ret_bool' ?_, HB.out⟩
    unfold ct
    first | (simp; omega) | (symm; simp; omega) | simp_all
/-- who fits -/
def ft (c : Cn) (most : Int) : Bool := ct c && decide (0 ≤ c.s ∧ c.s < 16 ∧ c.d ≤ most)
theorem lo_calls (co cd : Int) (h0 : -1152921504606846976 ≤ co) (h1 : co ≤ 1152921504606846976) (h2 : 0 ≤ cd) (h3 : cd ≤ 4503599627370496) : Fx.cl 4611686018427387904 (co - cd) = co - cd := Fx.cl_in (by omega) (by omega)
set_option maxHeartbeats 400000 in
theorem lowEnd_any (c : Cn) (hc : ct c = true) (w : World) : Calls Try.prog 16 #[.agg (cnL c).toArray] w fun e w' => e = .returned (enV (zl c)) ∧ Below w.heap.size w w' := by
  have HE : Hid (enV (zl c) = .complex .f64 (Fl.fl (lo c)) (Fl.fl (-1))) := by show _ = _; unfold enV; rw [(plc_l c).1, (plc_l c).2]
  obtain ⟨ci, co, cd, cj, cs, cp, cu⟩ := c
  obtain ⟨b0, b1, b2, b3⟩ := ct_iff.1 hc
  have HS : Hid (∀ u, Calls Try.prog 26 #[.int .i64 co, .int .i64 cd] u fun e w' => e = .returned (.int .i64 (co - cd)) ∧ w' = u) := fun u => by
    have := sub_any co cd u (by simp only at *; omega) (by simp only at *; omega) (by simp only at *; omega) (by simp only at *; omega)
    rw [Fx.cl_in (by simp only at *; omega) (by simp only at *; omega)] at this
    exact this
  have HH : Hid (∀ u, Calls Try.prog 24 #[.int .i64 (co - cd), .int .i64 (-16)] u fun e w' => e = .returned (.int .i64 ((co - cd) / 65536)) ∧ w' = u) := fun u => by
    have := shift_any (co - cd) (-16) u (by omega) (by omega)
    rw [shm16] at this
    exact this
  clear b0 b1 b2 b3
  rw [HE.out]
  unfold lo
  go_enter Try.func16, Try.ntmps16
  refine post_hid fun Q hQ => ?_
  refine seq_hid fun R hR => ?_
  go_wp2_with (refine step_boxL (by rfl) 25 _ rfl (cnL ⟨ci, co, cd, cj, cs, cp, cu⟩).toArray (by rfl) (fun u => by kernel_rfl) ?_; intro W g H1)
  have c1 : W.cell? ⟨g, 1, none⟩ = some (.int .i64 co) := H1.out.bk.cell 1
  have c2 : W.cell? ⟨g, 2, none⟩ = some (.int .i64 cd) := H1.out.bk.cell 2
  have HB : Hid (Below w.heap.size w W) := H1.out.be
  clear H1
  rw [hR.out]
  clear hR
  go_wp2_with (first
    | (go_at_call 26; refine (HS.out _).mono ?_; rintro e w' ⟨rfl, rfl⟩)
    | (go_at_call 24; refine (HH.out _).mono ?_; rintro e w' ⟨rfl, rfl⟩)
    | (go_at_call 25; refine (endAt_any _ _ _).mono ?_; rintro e w' ⟨rfl, rfl⟩))
  rw [hQ.out]
  go_ret
  exact ⟨rfl, HB.out⟩
set_option maxHeartbeats 400000 in
theorem middleEnd_any (c : Cn) (w : World) : Calls Try.prog 15 #[.agg (cnL c).toArray] w fun e w' => e = .returned (enV (zm c)) ∧ Below w.heap.size w w' := by
  have HE : Hid (enV (zm c) = .complex .f64 (Fl.fl (mi c)) (Fl.fl 0)) := by show _ = _; unfold enV; rw [(plc_m c).1, (plc_m c).2]
  obtain ⟨ci, co, cd, cj, cs, cp, cu⟩ := c
  have HH : Hid (∀ u, Calls Try.prog 24 #[.int .i64 co, .int .i64 (-16)] u fun e w' => e = .returned (.int .i64 (co / 65536)) ∧ w' = u) := fun u => by
    have := shift_any co (-16) u (by omega) (by omega)
    rw [shm16] at this
    exact this
  rw [HE.out]
  unfold mi
  go_enter Try.func15, Try.ntmps15
  refine post_hid fun Q hQ => ?_
  refine seq_hid fun R hR => ?_
  go_wp2_with (refine step_boxL (by rfl) 25 _ rfl (cnL ⟨ci, co, cd, cj, cs, cp, cu⟩).toArray (by rfl) (fun u => by kernel_rfl) ?_; intro W g H1)
  have c1 : W.cell? ⟨g, 1, none⟩ = some (.int .i64 co) := H1.out.bk.cell 1
  have HB : Hid (Below w.heap.size w W) := H1.out.be
  clear H1
  rw [hR.out]
  clear hR
  go_wp2_with (first
    | (go_at_call 24; refine (HH.out _).mono ?_; rintro e w' ⟨rfl, rfl⟩)
    | (go_at_call 25; refine (endAt_any _ _ _).mono ?_; rintro e w' ⟨rfl, rfl⟩))
  rw [hQ.out]
  go_ret
  exact ⟨rfl, HB.out⟩
set_option maxHeartbeats 400000 in
theorem highEnd_any (c : Cn) (hc : ct c = true) (w : World) : Calls Try.prog 17 #[.agg (cnL c).toArray] w fun e w' => e = .returned (enV (zh c)) ∧ Below w.heap.size w w' := by
  have HE : Hid (enV (zh c) = .complex .f64 (Fl.fl (hi c)) (Fl.fl 1)) := by show _ = _; unfold enV; rw [(plc_h c).1, (plc_h c).2]
  obtain ⟨ci, co, cd, cj, cs, cp, cu⟩ := c
  obtain ⟨b0, b1, b2, b3⟩ := ct_iff.1 hc
  simp only at b0 b1 b2 b3
  have HA : Hid (∀ u, Calls Try.prog 28 #[.int .i64 cd, .int .i64 co] u fun e w' => e = .returned (.int .i64 (co + cd)) ∧ w' = u) := fun u => by
    have := add_any cd co u (by omega) (by omega) (by omega) (by omega)
    rw [Fx.cl_in (by omega) (by omega), Int.add_comm] at this
    exact this
  have HN : Hid (∀ u, Calls Try.prog 27 #[.int .i64 (co + cd)] u fun e w' => e = .returned (.int .i64 (-(co + cd))) ∧ w' = u) := fun u => by
    have := neg_any (co + cd) u (by omega) (by omega)
    rw [Fx.cl_in (by omega) (by omega)] at this
    exact this
  have HH : Hid (∀ u, Calls Try.prog 24 #[.int .i64 (-(co + cd)), .int .i64 (-16)] u fun e w' => e = .returned (.int .i64 (-(co + cd) / 65536)) ∧ w' = u) := fun u => by
    have := shift_any (-(co + cd)) (-16) u (by omega) (by omega)
    rw [shm16] at this
    exact this
  have HM : Hid (∀ u, Calls Try.prog 27 #[.int .i64 (-(co + cd) / 65536)] u fun e w' => e = .returned (.int .i64 (-(-(co + cd) / 65536))) ∧ w' = u) := fun u => by
    have := neg_any (-(co + cd) / 65536) u (by omega) (by omega)
    rw [Fx.cl_in (by omega) (by omega)] at this
    exact this
  clear b0 b1 b2 b3
  rw [HE.out]
  unfold hi
  simp only
  obtain ⟨S, hS⟩ : ∃ S, co + cd = S := ⟨_, rfl⟩
  rw [hS] at HA HN HH HM
  rw [hS]
  obtain ⟨N, hN⟩ : ∃ N, -S = N := ⟨_, rfl⟩
  rw [hN] at HN HH HM
  rw [hN]
  obtain ⟨D, hD⟩ : ∃ D, N / 65536 = D := ⟨_, rfl⟩
  rw [hD] at HH HM
  rw [hD]
  clear hS hN hD hc HE
  go_enter Try.func17, Try.ntmps17
  refine post_hid fun Q hQ => ?_
  refine seq_hid fun R hR => ?_
  go_wp2_with (refine step_boxL (by rfl) 25 _ rfl (cnL ⟨ci, co, cd, cj, cs, cp, cu⟩).toArray (by rfl) (fun u => by kernel_rfl) ?_; intro W g H1)
  have c1 : W.cell? ⟨g, 1, none⟩ = some (.int .i64 co) := H1.out.bk.cell 1
  have c2 : W.cell? ⟨g, 2, none⟩ = some (.int .i64 cd) := H1.out.bk.cell 2
  have HB : Hid (Below w.heap.size w W) := H1.out.be
  clear H1
  rw [hR.out]
  clear hR
  go_wp2_with fail
  · refine (HA.out _).mono ?_; rintro e w' ⟨rfl, rfl⟩
    go_wp2_with fail
    refine (HN.out _).mono ?_; rintro e w' ⟨rfl, rfl⟩
    go_wp2_with fail
    refine (HH.out _).mono ?_; rintro e w' ⟨rfl, rfl⟩
    go_wp2_with fail
    refine (HM.out _).mono ?_; rintro e w' ⟨rfl, rfl⟩
    go_wp2_with fail
    refine (endAt_any _ _ _).mono ?_; rintro e w' ⟨rfl, rfl⟩
    go_wp2_with fail
    rw [hQ.out]
    go_ret
    exact ⟨rfl, HB.out⟩
theorem tdiv_floor (s : Int) : (if s.tmod 65536 < 0 then s.tdiv 65536 - 1 else s.tdiv 65536) = s / 65536 := by
  have h := Int.mul_tdiv_add_tmod s 65536
  have h1 := Int.tmod_lt_of_pos s (b := 65536) (by decide)
  by_cases hs : 0 ≤ s
  · have := Int.tmod_nonneg 65536 hs
    split <;> omega
  · have h2 : -65536 < s.tmod 65536 := by
      have := Int.tmod_lt_of_pos (-s) (b := 65536) (by decide)
      rw [Int.neg_tmod] at this; omega
    have h3 : s.tmod 65536 ≤ 0 := by
      have := Int.tmod_nonneg (a := -s) 65536 (by omega)
      rw [Int.neg_tmod] at this; omega
    split <;> omega
set_option maxHeartbeats 400000 in
theorem down_any (s : Int) (h0 : -9223372036854775807 ≤ s) (h1 : s ≤ 9223372036854775807) (w : World) : Calls Try.prog 20 #[.int .i64 s] w fun e w' => e = .returned (.int .i64 (s / 65536)) ∧ w' = w := by
  have h := tdiv_floor s
  have hq : -9223372036854775807 ≤ s.tdiv 65536 ∧ s.tdiv 65536 ≤ 9223372036854775807 := by split at h <;> omega
  have hb : -9223372036854775807 ≤ s / 65536 ∧ s / 65536 ≤ 9223372036854775807 := by omega
  have HQ : Hid _ := h
  have HB : Hid _ := hq
  have HC : Hid _ := hb
  clear h hq hb
  go_enter Try.func20, Try.ntmps20
  go_wp2
  all_goals
    go_ret
    refine ⟨ret_int' ?_, rfl⟩
    have h1 := HQ.out
    have h2 := HB.out
    have h3 := HC.out
    try simp only [wrap64] at *
    split at h1 <;> omega
end Go.Proofs.Ytepbbaeamlimaab
