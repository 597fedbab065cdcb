/- What the reference's leap, month, days, first and OfDate return. -/
import Derived.Test.YthoilihokbakoaaDoorStC
import Derived.WalkKit
import Derived.WalkSpells
import Derived.WalkLawsBesides
import Derived.Handy
import Derived.Below
import Derived.Deep.QuietTactic
import Derived.BigQuiet
namespace Go.Proofs.YthoilihokbakoaaDoor
open Go.RowKit
set_option maxHeartbeats 400000 in
theorem rleap_any (y : Int) (w : World) (h0 : 0 ≤ y) (h1 : y ≤ 1000000) :
    Calls Tryd.prog 41 #[.int .i64 y] w fun e w' => e = .returned (.bool (Cal.lpB y)) ∧ w' = w := by
  go_enter Tryd.func41, Tryd.ntmps41
  go_wp2
  all_goals
    go_ret
    exact ⟨ret_bool' (by rw [Bool.eq_iff_iff]; simp [Cal.lpB] at *; omega), rfl⟩
set_option maxHeartbeats 1000000 in
theorem rmonth_any (y m : Int) (w : World) (h0 : 0 ≤ y) (h1 : y ≤ 1000000) (m0 : 1 ≤ m) (m1 : m ≤ 12) :
    Calls Tryd.prog 30 #[.int .i64 y, .int .i64 m] w fun e w' => e = .returned (.int .i64 (Cal.dim y m)) ∧ w' = w := by
  rcases Cal.month_cases m0 m1 with rfl | rfl | rfl | rfl | rfl | rfl | rfl | rfl | rfl | rfl | rfl | rfl
  all_goals
    go_enter Tryd.func30, Tryd.ntmps30
    go_wp2_with (go_at_call 41; refine (rleap_any _ _ (by omega) (by omega)).mono ?_; rintro e w' ⟨rfl, rfl⟩)
    all_goals
      go_ret
      refine ⟨ret_i64 ?_, rfl⟩
      first
        | rfl
        | (rename_i hl; simp [Cal.dim, Cal.lp_t hl]; done)
        | (rename_i hl; simp [Cal.dim, Cal.lp_f hl]; done)
set_option maxHeartbeats 400000 in
theorem rdays_any (y : Int) (w : World) (h0 : 0 ≤ y) (h1 : y ≤ 1000000) :
    Calls Tryd.prog 29 #[.int .i64 y] w fun e w' => e = .returned (.int .i64 (365 + Cal.lp y)) ∧ w' = w := by
  go_enter Tryd.func29, Tryd.ntmps29
  go_wp2_with (go_at_call 41; refine (rleap_any _ _ (by omega) (by omega)).mono ?_; rintro e w' ⟨rfl, rfl⟩)
  all_goals
    go_ret
    refine ⟨ret_i64 ?_, rfl⟩
    rename_i hl
    first
      | (rw [Cal.lp_t hl]; rfl)
      | (rw [Cal.lp_f hl]; rfl)
set_option maxHeartbeats 400000 in
theorem rfirst_any (y : Int) (w : World) (h0 : 1 ≤ y) (h1 : y ≤ 3000) :
    Calls Tryd.prog 28 #[.int .i64 y] w fun e w' => e = .returned (.int .i64 (Cal.db y)) ∧ w' = w := by
  go_enter Tryd.func28, Tryd.ntmps28
  go_wp2
  go_loop [3, 4] (fun n k => ∃ j : Int, k = .int .i64 j ∧ n = .int .i64 (Cal.db j) ∧ 1 ≤ j ∧ j ≤ y) (fun _ k => (y - intOf k).toNat)
  case atStart => exact ⟨1, rfl, by rw [Cal.db_1], by omega, by omega⟩
  case round =>
    obtain ⟨j, rfl, rfl, j0, j1⟩ := hrel
    have hs := Cal.db_succ j
    have HS : Hid (Cal.db (j + 1) = Cal.db j + 365 + Cal.lp j) := hs
    have hb0 : 0 ≤ Cal.db j := by unfold Cal.db; omega
    have hb1 : Cal.db j ≤ 1100000 := by unfold Cal.db; omega
    obtain ⟨hl0, hl1⟩ := Cal.lp_01 j
    clear hs
    by_cases hc : j < y
    · go_wp2_with (go_at_call 29; refine (rdays_any _ _ (by omega) (by omega)).mono ?_; rintro e w' ⟨rfl, rfl⟩)
      go_round
      case rel => exact ⟨j + 1, rfl, by rw [HS.out]; go_num, by omega, by omega⟩
      case measure => simp [intOf]; omega
    · go_wp2
      go_ret
      exact ⟨ret_i64 (by rw [show j = y from by omega]), rfl⟩
theorem rf1900_any (w : World) : Calls Tryd.prog 28 #[.int .i64 1900] w fun e w' => e = .returned (.int .i64 693595) ∧ w' = w :=
  (rfirst_any 1900 w (by decide) (by decide)).mono fun _ _ ⟨h1, h2⟩ => ⟨h1.trans (ret_i64 Cal.db_1900), h2⟩
theorem rf2101_any (w : World) : Calls Tryd.prog 28 #[.int .i64 2101] w fun e w' => e = .returned (.int .i64 767009) ∧ w' = w :=
  (rfirst_any 2101 w (by decide) (by decide)).mono fun _ _ ⟨h1, h2⟩ => ⟨h1.trans (ret_i64 Cal.db_2101), h2⟩
set_option maxHeartbeats 1000000 in
theorem rofDate_no (era t : Int) (w : World) (t0 : 0 ≤ t) (t1 : t < 18446744073709551616) (h : ds era t < 0 ∨ 66269577600 ≤ ds era t) :
    Calls Tryd.prog 14 #[.agg #[.int .i64 era, .int .u64 t]] w fun e w' => e = .returned noC ∧ Below w.heap.size w w' := by
  have H : Hid (ds era t < 0 ∨ 66269577600 ≤ ds era t) := h
  clear h
  by_cases h1 : era < -20
  · go_enter Tryd.func14, Tryd.ntmps14
    go_wp2
    exact bodyPost_ret (v := noC) (by simp [results, Tryd.results14, go_sem, noC]) rfl ⟨rfl, (by repeat' (first | with_reducible exact Below.refl _ _ | with_reducible refine Below.setCell ?_ (by first | (simp; done) | (simp; omega) | omega) _ | with_reducible refine below_drewN ?_ _ | with_reducible refine Below.drew ?_ | with_reducible refine Below.alloc ?_ (by first | (simp; done) | (simp; omega) | omega) _))⟩
  by_cases h2 : 20 < era
  · go_enter Tryd.func14, Tryd.ntmps14
    go_wp2
    exact bodyPost_ret (v := noC) (by simp [results, Tryd.results14, go_sem, noC]) rfl ⟨rfl, (by repeat' (first | with_reducible exact Below.refl _ _ | with_reducible refine Below.setCell ?_ (by first | (simp; done) | (simp; omega) | omega) _ | with_reducible refine below_drewN ?_ _ | with_reducible refine Below.drew ?_ | with_reducible refine Below.alloc ?_ (by first | (simp; done) | (simp; omega) | omega) _))⟩
  go_enter Tryd.func14, Tryd.ntmps14
  go_wp2
  go_quiet ((go_at_call 28; exact Calls.quiet_of_same (rf1900_any _)))
  have HE : Hid (era * 4294967296 + t / 4294967296 + 59926608000 = ds era t) := rfl
  have hb0 : -90129542144 ≤ ds era t := by unfold ds; omega
  have hb1 : ds era t ≤ 190129542144 := by unfold ds; omega
  rw [HE.out]
  generalize ds era t = S at *
  by_cases h3 : S < 0
  · go_wp2
    exact bodyPost_ret (v := noC) (by simp [results, Tryd.results14, go_sem, noC]) rfl ⟨rfl, (by repeat' (first | with_reducible exact Below.refl _ _ | with_reducible refine Below.setCell ?_ (by first | (simp; done) | (simp; omega) | omega) _ | with_reducible refine below_drewN ?_ _ | with_reducible refine Below.drew ?_ | with_reducible refine Below.alloc ?_ (by first | (simp; done) | (simp; omega) | omega) _))⟩
  · have h4 : 66269577600 ≤ S := by have := H.out; omega
    go_wp2_with fail
    refine (rf2101_any _).mono ?_
    rintro e w' ⟨rfl, rfl⟩
    go_wp2
    exact bodyPost_ret (v := noC) (by simp [results, Tryd.results14, go_sem, noC]) rfl ⟨rfl, (by repeat' (first | with_reducible exact Below.refl _ _ | with_reducible refine Below.setCell ?_ (by first | (simp; done) | (simp; omega) | omega) _ | with_reducible refine below_drewN ?_ _ | with_reducible refine Below.drew ?_ | with_reducible refine Below.alloc ?_ (by first | (simp; done) | (simp; omega) | omega) _))⟩
set_option maxHeartbeats 4000000 in
theorem rofDate_yes (era t : Int) (w : World) (t0 : 0 ≤ t) (t1 : t < 18446744073709551616) (h0 : 0 ≤ ds era t) (h1 : ds era t < 66269577600) :
    Calls Tryd.prog 14 #[.agg #[.int .i64 era, .int .u64 t]] w fun e w' => ∃ y m d h n s : Int, e = .returned (yesC y m d h n s (t % 4294967296)) ∧ Cal.Day y m d ∧ Cal.Time h n s ∧ Cal.sec y m d h n s = ds era t ∧ Below w.heap.size w w' := by
  have e0 : -14 ≤ era := by unfold ds at h0; omega
  have e1 : era ≤ 1 := by unfold ds at h1; omega
  have HE : Hid (era * 4294967296 + t / 4294967296 + 59926608000 = ds era t) := rfl
  generalize ds era t = S at *
  go_enter Tryd.func14, Tryd.ntmps14
  go_wp2
  go_quiet ((go_at_call 28; exact Calls.quiet_of_same (rf1900_any _)))
  rw [HE.out]
  go_wp2_with fail
  refine (rf2101_any _).mono ?_
  rintro e w' ⟨rfl, rfl⟩
  go_wp2_with fail
  obtain ⟨N, hN⟩ : ∃ N, N = S / 86400 := ⟨_, rfl⟩
  rw [← hN]
  have HN : Hid (N = S / 86400) := hN
  have N0 : 0 ≤ N := by omega
  have N1 : N < 767009 := by omega
  clear hN
  go_loopw [6] (fun n wr => ∃ y : Int, n = .int .i64 (N - Cal.db y) ∧ 1 ≤ y ∧ y ≤ 2100 ∧ Hid (Cal.db y ≤ N) ∧ wr = ((((w.alloc (Obj.cells #[.int .i64 era, .int .u64 t] 32)).alloc (Obj.cells #[.int .i64 0, .int .i64 0, .int .i64 0, .int .i64 0, .int .i64 0, .int .i64 0, .int .u32 0] 43)).drewN nq).alloc (Obj.cells #[.int .i64 y, .int .i64 1, .int .i64 0, .int .i64 (S / 3600 % 24), .int .i64 (S / 60 % 60), .int .i64 (S % 60), .int .u32 (t % 4294967296)] 43))) (fun n _ => (intOf n).toNat)
  case atStart => exact ⟨1, by rw [Cal.db_1, Int.sub_zero], by omega, by omega, show _ ≤ _ by rw [Cal.db_1]; exact N0, rfl⟩
  case round =>
    obtain ⟨y, rfl, y0, y1, hy, rfl⟩ := hrel
    have hy' := hy.out
    obtain ⟨b0, b1⟩ := Cal.db_bd y0 (by omega)
    obtain ⟨l0, l1⟩ := Cal.lp_01 y
    have HS : Hid (Cal.db (y + 1) = Cal.db y + 365 + Cal.lp y) := Cal.db_succ y
    by_cases hc : 365 + Cal.lp y ≤ N - Cal.db y
    · have hl : y + 1 ≤ 2100 := by
        refine Decidable.byContradiction fun x => ?_
        have e : y = 2100 := by omega
        subst e
        have h1 := Cal.db_2101
        have h2 := HS.out
        simp at h2
        omega
      go_wp2_with fail
      refine (rdays_any _ _ (by omega) (by omega)).mono ?_
      rintro e w' ⟨rfl, rfl⟩
      go_wp2_with fail
      refine (rdays_any _ _ (by omega) (by omega)).mono ?_
      rintro e w' ⟨rfl, rfl⟩
      go_wp2
      go_roundw
      case rel => exact ⟨y + 1, by rw [HS.out]; go_num, by omega, by omega, show _ ≤ _ by rw [HS.out]; omega, rfl⟩
      case measure => simp [intOf]; omega
    · have hv : Hid (N < Cal.db y + 365 + Cal.lp y) := show _ < _ by omega
      go_wp2_with fail
      refine (rdays_any _ _ (by omega) (by omega)).mono ?_
      rintro e w' ⟨rfl, rfl⟩
      go_wp2_with fail
      clear hc
      go_loopw [6] (fun n wr => ∃ m : Int, n = .int .i64 (N - Cal.db y - Cal.cum y m) ∧ 1 ≤ m ∧ m ≤ 12 ∧ 0 ≤ N - Cal.db y - Cal.cum y m ∧ wr = ((((w.alloc (Obj.cells #[.int .i64 era, .int .u64 t] 32)).alloc (Obj.cells #[.int .i64 0, .int .i64 0, .int .i64 0, .int .i64 0, .int .i64 0, .int .i64 0, .int .u32 0] 43)).drewN nq).alloc (Obj.cells #[.int .i64 y, .int .i64 m, .int .i64 0, .int .i64 (S / 3600 % 24), .int .i64 (S / 60 % 60), .int .i64 (S % 60), .int .u32 (t % 4294967296)] 43))) (fun n _ => (intOf n).toNat)
      case atStart => exact ⟨1, by rw [Cal.cum_1, Int.sub_zero], by omega, by omega, by rw [Cal.cum_1]; omega, rfl⟩
      case round =>
        obtain ⟨m, rfl, m0, m1, r0, rfl⟩ := hrel
        obtain ⟨cb0, cb1⟩ := Cal.cum_bd y m
        obtain ⟨dd0, dd1⟩ := Cal.dim_bd y m
        have CS : Hid (Cal.cum y (m + 1) = Cal.cum y m + Cal.dim y m) := Cal.cum_succ y m m0 m1
        by_cases hc : Cal.dim y m ≤ N - Cal.db y - Cal.cum y m
        · have hm : m + 1 ≤ 12 := by
            refine Decidable.byContradiction fun x => ?_
            have e : m = 12 := by omega
            subst e
            have h2 := CS.out
            have h3 := Cal.cum_13 y
            have h4 := hv.out
            simp at h2
            omega
          go_wp2_with fail
          refine (rmonth_any _ _ _ (by omega) (by omega) m0 m1).mono ?_
          rintro e w' ⟨rfl, rfl⟩
          go_wp2_with fail
          refine (rmonth_any _ _ _ (by omega) (by omega) m0 m1).mono ?_
          rintro e w' ⟨rfl, rfl⟩
          go_wp2
          go_roundw
          case rel => exact ⟨m + 1, by rw [CS.out]; go_num, by omega, by omega, by rw [CS.out]; omega, rfl⟩
          case measure => simp [intOf]; omega
        · go_wp2_with fail
          refine (rmonth_any _ _ _ (by omega) (by omega) m0 m1).mono ?_
          rintro e w' ⟨rfl, rfl⟩
          have HD : Hid (Cal.Day y m (N - Cal.db y - Cal.cum y m + 1)) := ⟨y0, y1, m0, m1, by omega, by omega⟩
          go_simp
          repeat (first | go_values | go_skip | go_guarded | go_step | go_upon)
          refine bodyPost_ret (v := yesC y m (N - Cal.db y - Cal.cum y m + 1) (S / 3600 % 24) (S / 60 % 60) (S % 60) (t % 4294967296)) (by simp [results, Tryd.results14, go_sem, yesC]) rfl ⟨y, m, _, _, _, _, rfl, HD.out, ?_, ?_, ?_⟩
          · unfold Cal.Time; omega
          · have hn : Cal.num y m (N - Cal.db y - Cal.cum y m + 1) = N := by unfold Cal.num; omega
            unfold Cal.sec; rw [hn, HN.out]; omega
          · exact (by repeat' (first | with_reducible exact Below.refl _ _ | with_reducible refine Below.setCell ?_ (by first | (simp; done) | (simp; omega) | omega) _ | with_reducible refine below_drewN ?_ _ | with_reducible refine Below.drew ?_ | with_reducible refine Below.alloc ?_ (by first | (simp; done) | (simp; omega) | omega) _))
end Go.Proofs.YthoilihokbakoaaDoor
