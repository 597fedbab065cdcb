/- What OfDate of package stamp returns, for every input. -/
import Derived.Test.YthoilihokbakoaaDoorStB
import Derived.WalkKit
import Derived.WalkSpells
import Derived.WalkLawsBesides
import Derived.Handy
import Derived.Below
import Derived.Deep.QuietTactic
import Derived.BigQuiet
namespace Go.Proofs.YthoilihokbakoaaDoor
open Go.RowKit
/-- the second of a date, from the year 1 on -/
def ds (era t : Int) : Int := era * 4294967296 + t / 4294967296 + 59926608000
def noC : Value := .tuple #[.agg #[.int .i64 0, .int .i64 0, .int .i64 0, .int .i64 0, .int .i64 0, .int .i64 0, .int .u32 0], .int .i64 20]
theorem db1900_any (w : World) : Calls Tryd.prog 38 #[.int .i64 1900] w fun e w' => e = .returned (.int .i64 693595) ∧ w' = w :=
  (daysBefore_any 1900 w (by decide) (by decide)).mono fun _ _ ⟨h1, h2⟩ => ⟨h1.trans (ret_i64 Cal.db_1900), h2⟩
theorem db2101_any (w : World) : Calls Tryd.prog 38 #[.int .i64 2101] w fun e w' => e = .returned (.int .i64 767009) ∧ w' = w :=
  (daysBefore_any 2101 w (by decide) (by decide)).mono fun _ _ ⟨h1, h2⟩ => ⟨h1.trans (ret_i64 Cal.db_2101), h2⟩
theorem below_drewN {B : Nat} {a w : World} (h : Below B a w) (n : Nat) : Below B a (w.drewN n) := by
  induction n with
  | zero => exact h
  | succ n ih => exact ih.drew
set_option maxHeartbeats 400000 in
theorem ofDate_no (era t : Int) (w : World) (t0 : 0 ≤ t) (t1 : t < 18446744073709551616) (h : ds era t < 0 ∨ 66269577600 ≤ ds era t) :
    Calls Tryd.prog 24 #[.agg #[.int .i64 era, .int .u64 t]] w fun e w' => e = .returned noC ∧ Below w.heap.size w w' := by
  have H : Hid (ds era t < 0 ∨ 66269577600 ≤ ds era t) := h
  clear h
  by_cases h1 : era < -14
  · go_enter Tryd.func24, Tryd.ntmps24
    go_wp2
    exact bodyPost_ret (v := noC) (by simp [results, Tryd.results24, go_sem, noC]) rfl ⟨rfl, (by repeat' (first | with_reducible exact Below.refl _ _ | with_reducible refine Below.setCell ?_ (by first | (simp; done) | (simp; omega) | omega) _ | with_reducible refine below_drewN ?_ _ | with_reducible refine Below.drew ?_ | with_reducible refine Below.alloc ?_ (by first | (simp; done) | (simp; omega) | omega) _))⟩
  by_cases h2 : 1 < era
  · go_enter Tryd.func24, Tryd.ntmps24
    go_wp2
    exact bodyPost_ret (v := noC) (by simp [results, Tryd.results24, go_sem, noC]) rfl ⟨rfl, (by repeat' (first | with_reducible exact Below.refl _ _ | with_reducible refine Below.setCell ?_ (by first | (simp; done) | (simp; omega) | omega) _ | with_reducible refine below_drewN ?_ _ | with_reducible refine Below.drew ?_ | with_reducible refine Below.alloc ?_ (by first | (simp; done) | (simp; omega) | omega) _))⟩
  go_enter Tryd.func24, Tryd.ntmps24
  go_wp2
  go_quiet ((go_at_call 38; exact Calls.quiet_of_same (db1900_any _)))
  have HE : Hid (era * 4294967296 + t / 4294967296 + 59926608000 = ds era t) := rfl
  have hb0 : -60129542144 ≤ ds era t := by unfold ds; omega
  have hb1 : ds era t ≤ 70129542144 := by unfold ds; omega
  rw [HE.out]
  generalize ds era t = S at *
  by_cases h3 : S < 0
  · go_wp2
    exact bodyPost_ret (v := noC) (by simp [results, Tryd.results24, go_sem, noC]) rfl ⟨rfl, (by repeat' (first | with_reducible exact Below.refl _ _ | with_reducible refine Below.setCell ?_ (by first | (simp; done) | (simp; omega) | omega) _ | with_reducible refine below_drewN ?_ _ | with_reducible refine Below.drew ?_ | with_reducible refine Below.alloc ?_ (by first | (simp; done) | (simp; omega) | omega) _))⟩
  · have h4 : 66269577600 ≤ S := by have := H.out; omega
    go_wp2_with fail
    refine (db2101_any _).mono ?_
    rintro e w' ⟨rfl, rfl⟩
    go_wp2
    exact bodyPost_ret (v := noC) (by simp [results, Tryd.results24, go_sem, noC]) rfl ⟨rfl, (by repeat' (first | with_reducible exact Below.refl _ _ | with_reducible refine Below.setCell ?_ (by first | (simp; done) | (simp; omega) | omega) _ | with_reducible refine below_drewN ?_ _ | with_reducible refine Below.drew ?_ | with_reducible refine Below.alloc ?_ (by first | (simp; done) | (simp; omega) | omega) _))⟩
def yesC (y m d h n s f : Int) : Value := .tuple #[.agg #[.int .i64 y, .int .i64 m, .int .i64 d, .int .i64 h, .int .i64 n, .int .i64 s, .int .u32 f], .int .i64 0]
set_option maxHeartbeats 1000000 in
theorem ofDate_yes (era t : Int) (w : World) (t0 : 0 ≤ t) (t1 : t < 18446744073709551616) (h0 : 0 ≤ ds era t) (h1 : ds era t < 66269577600) :
    Calls Tryd.prog 24 #[.agg #[.int .i64 era, .int .u64 t]] w fun e w' => ∃ y m d h n s : Int, e = .returned (yesC y m d h n s (t % 4294967296)) ∧ Cal.Day y m d ∧ Cal.Time h n s ∧ Cal.sec y m d h n s = ds era t ∧ Below w.heap.size w w' := by
  have e0 : -14 ≤ era := by unfold ds at h0; omega
  have e1 : era ≤ 1 := by unfold ds at h1; omega
  have HE : Hid (era * 4294967296 + t / 4294967296 + 59926608000 = ds era t) := rfl
  generalize ds era t = S at *
  go_enter Tryd.func24, Tryd.ntmps24
  go_wp2
  go_quiet ((go_at_call 38; exact Calls.quiet_of_same (db1900_any _)))
  rw [HE.out]
  go_wp2_with fail
  refine (db2101_any _).mono ?_
  rintro e w' ⟨rfl, rfl⟩
  go_wp2_with fail
  refine (civilDay_any (S / 86400) _ (by omega) (by omega)).mono ?_
  rintro e w1 ⟨y, m, d, rfl, hd, hn, hb⟩
  obtain ⟨hcl, hfr⟩ := bcell hb
  have hz : w.heap.size + 1 < w1.heap.size := by have := hb.size; simp at this; omega
  have hz0 : w.heap.size < w1.heap.size := by omega
  have hB : Hid (Below w.heap.size w w1) := by
    refine Below.trans ?_ (hb.mono (by simp; omega))
    exact (by repeat' (first | with_reducible exact Below.refl _ _ | with_reducible refine Below.setCell ?_ (by first | (simp; done) | (simp; omega) | omega) _ | with_reducible refine below_drewN ?_ _ | with_reducible refine Below.drew ?_ | with_reducible refine Below.alloc ?_ (by first | (simp; done) | (simp; omega) | omega) _))
  have HD : Hid (Cal.Day y m d ∧ Cal.num y m d = S / 86400) := ⟨hd, hn⟩
  have c1 : w1.cell? ⟨w.heap.size, 1, none⟩ = some (.int .u64 t) := by rw [hcl _ _ (by simp; omega)]; simp
  have r0 : w1.cell? ⟨w.heap.size + 1, 0, none⟩ = some (.int .i64 0) := by rw [hcl _ _ (by simp)]; simp
  have r1 : w1.cell? ⟨w.heap.size + 1, 1, none⟩ = some (.int .i64 0) := by rw [hcl _ _ (by simp)]; simp
  have r2 : w1.cell? ⟨w.heap.size + 1, 2, none⟩ = some (.int .i64 0) := by rw [hcl _ _ (by simp)]; simp
  have r3 : w1.cell? ⟨w.heap.size + 1, 3, none⟩ = some (.int .i64 0) := by rw [hcl _ _ (by simp)]; simp
  have r4 : w1.cell? ⟨w.heap.size + 1, 4, none⟩ = some (.int .i64 0) := by rw [hcl _ _ (by simp)]; simp
  have r5 : w1.cell? ⟨w.heap.size + 1, 5, none⟩ = some (.int .i64 0) := by rw [hcl _ _ (by simp)]; simp
  have r6 : w1.cell? ⟨w.heap.size + 1, 6, none⟩ = some (.int .u32 0) := by rw [hcl _ _ (by simp)]; simp
  have rf : ∀ o, w1.frozen? ⟨w.heap.size + 1, o, none⟩ = false := fun o => by rw [hfr _ _ (by simp)]; simp
  clear hd hn hb hcl hfr
  go_simp
  repeat (first | go_values | go_skip | go_guarded | go_step | go_upon)
  refine bodyPost_ret (v := yesC y m d (S % 86400 / 3600) (S % 3600 / 60) (S % 60) (t % 4294967296)) (by simp [results, Tryd.results24, go_sem, yesC, r0, r1, r2, r3, r4, r5, r6, hz]) rfl ⟨y, m, d, _, _, _, rfl, HD.out.1, ?_, ?_, ?_⟩
  · unfold Cal.Time; omega
  · unfold Cal.sec; rw [HD.out.2]; omega
  · exact (by repeat' (first | with_reducible exact Below.refl _ _ | with_reducible exact hB.out | with_reducible refine Below.setCell ?_ (by first | (simp; done) | (simp; omega) | omega) _ | with_reducible refine below_drewN ?_ _ | with_reducible refine Below.drew ?_ | with_reducible refine Below.alloc ?_ (by first | (simp; done) | (simp; omega) | omega) _))
end Go.Proofs.YthoilihokbakoaaDoor
