/- What ToDate of package stamp returns, for every input. -/
import Derived.Test.YthoilihokbakoaaDoorStC
import Derived.WalkKit
import Derived.WalkSpells
import Derived.WalkLawsBesides
import Derived.Handy
import Derived.Below
import Derived.Deep.QuietTactic
import Derived.BigQuiet
namespace Go.Proofs.YthoilihokbakoaaDoor
open Go.RowKit
def noD (e : Int) : Value := .tuple #[.agg #[.int .i64 0, .int .u64 0], .int .i64 e]
def yesD (era t : Int) : Value := .tuple #[.agg #[.int .i64 era, .int .u64 t], .int .i64 0]
set_option maxHeartbeats 400000 in
theorem toDate_no (y m d h n s f : Int) (w : World) (hx : ¬ (Cal.Day y m d ∧ Cal.Time h n s)) :
    Calls Tryd.prog 20 #[.agg #[.int .i64 y, .int .i64 m, .int .i64 d, .int .i64 h, .int .i64 n, .int .i64 s, .int .u32 f]] w fun e w' => e = .returned (noD 20) ∧ Below w.heap.size w w' := by
  by_cases hd : Cal.Day y m d
  · have eD := day_t hd
    have eT := time_f (fun x => hx ⟨hd, x⟩)
    clear hx hd
    go_enter Tryd.func20, Tryd.ntmps20
    go_wp2_with fail
    refine (isDay_any y m d _).mono ?_
    rintro e w1 ⟨rfl, hb⟩
    rw [eD]
    obtain ⟨hcl, hfr⟩ := bcell hb
    have hz : w.heap.size + 1 < w1.heap.size := by have := hb.size; simp at this; omega
    have hB : Hid (Below w.heap.size w w1) := by
      refine Below.trans ?_ (hb.mono (by simp; omega))
      exact (by repeat' (first | with_reducible exact Below.refl _ _ | with_reducible refine Below.setCell ?_ (by first | (simp; done) | (simp; omega) | omega) _ | with_reducible refine below_drewN ?_ _ | with_reducible refine Below.drew ?_ | with_reducible refine Below.alloc ?_ (by first | (simp; done) | (simp; omega) | omega) _))
    have p3 : w1.cell? ⟨w.heap.size, 3, none⟩ = some (.int .i64 h) := by rw [hcl _ _ (by simp; omega)]; simp
    have p4 : w1.cell? ⟨w.heap.size, 4, none⟩ = some (.int .i64 n) := by rw [hcl _ _ (by simp; omega)]; simp
    have p5 : w1.cell? ⟨w.heap.size, 5, none⟩ = some (.int .i64 s) := by rw [hcl _ _ (by simp; omega)]; simp
    have r0 : w1.cell? ⟨w.heap.size + 1, 0, none⟩ = some (.int .i64 0) := by rw [hcl _ _ (by simp)]; simp
    have r1 : w1.cell? ⟨w.heap.size + 1, 1, none⟩ = some (.int .u64 0) := by rw [hcl _ _ (by simp)]; simp
    have rf : ∀ o, w1.frozen? ⟨w.heap.size + 1, o, none⟩ = false := fun o => by rw [hfr _ _ (by simp)]; simp
    clear hcl hfr hb
    go_wp2_with fail
    refine (isTime_any h n s _).mono ?_
    rintro e w2 ⟨rfl, rfl⟩
    rw [eT]
    go_wp2
    exact bodyPost_ret (v := noD 20) (by simp [results, Tryd.results20, go_sem, noD, r0, r1]) rfl ⟨rfl, (by repeat' (first | with_reducible exact Below.refl _ _ | with_reducible exact hB.out | with_reducible refine Below.setCell ?_ (by first | (simp; done) | (simp; omega) | omega) _ | with_reducible refine below_drewN ?_ _ | with_reducible refine Below.drew ?_ | with_reducible refine Below.alloc ?_ (by first | (simp; done) | (simp; omega) | omega) _))⟩
  · have eD := day_f hd
    clear hx hd
    go_enter Tryd.func20, Tryd.ntmps20
    go_wp2_with fail
    refine (isDay_any y m d _).mono ?_
    rintro e w1 ⟨rfl, hb⟩
    rw [eD]
    obtain ⟨hcl, hfr⟩ := bcell hb
    have hz : w.heap.size + 1 < w1.heap.size := by have := hb.size; simp at this; omega
    have hB : Hid (Below w.heap.size w w1) := by
      refine Below.trans ?_ (hb.mono (by simp; omega))
      exact (by repeat' (first | with_reducible exact Below.refl _ _ | with_reducible refine Below.setCell ?_ (by first | (simp; done) | (simp; omega) | omega) _ | with_reducible refine below_drewN ?_ _ | with_reducible refine Below.drew ?_ | with_reducible refine Below.alloc ?_ (by first | (simp; done) | (simp; omega) | omega) _))
    have r0 : w1.cell? ⟨w.heap.size + 1, 0, none⟩ = some (.int .i64 0) := by rw [hcl _ _ (by simp)]; simp
    have r1 : w1.cell? ⟨w.heap.size + 1, 1, none⟩ = some (.int .u64 0) := by rw [hcl _ _ (by simp)]; simp
    have rf : ∀ o, w1.frozen? ⟨w.heap.size + 1, o, none⟩ = false := fun o => by rw [hfr _ _ (by simp)]; simp
    clear hcl hfr hb
    go_wp2
    exact bodyPost_ret (v := noD 20) (by simp [results, Tryd.results20, go_sem, noD, r0, r1]) rfl ⟨rfl, (by repeat' (first | with_reducible exact Below.refl _ _ | with_reducible exact hB.out | with_reducible refine Below.setCell ?_ (by first | (simp; done) | (simp; omega) | omega) _ | with_reducible refine below_drewN ?_ _ | with_reducible refine Below.drew ?_ | with_reducible refine Below.alloc ?_ (by first | (simp; done) | (simp; omega) | omega) _))⟩
theorem or_low (a f : Int) (a0 : 0 ≤ a) (a1 : a < 4294967296) (f0 : 0 ≤ f) (f1 : f < 4294967296) : bits .or .u64 (a * 4294967296) f = a * 4294967296 + f := by
  obtain ⟨x, rfl⟩ := Int.eq_ofNat_of_zero_le a0
  obtain ⟨z, rfl⟩ := Int.eq_ofNat_of_zero_le f0
  have h := Nat.shiftLeft_add_eq_or_of_lt (i := 32) (b := z) (by simp; omega) x
  rw [Nat.shiftLeft_eq] at h
  rw [show ((x : Int) * 4294967296) = ((x * 4294967296 : Nat) : Int) from by simp, bits_or_u64_nat _ _ (by omega) (by omega)]
  simp at h
  omega
set_option maxHeartbeats 1000000 in
theorem toDate_yes (y m d h n s f : Int) (w : World) (hd : Cal.Day y m d) (ht : Cal.Time h n s) (f0 : 0 ≤ f) (f1 : f < 4294967296) :
    Calls Tryd.prog 20 #[.agg #[.int .i64 y, .int .i64 m, .int .i64 d, .int .i64 h, .int .i64 n, .int .i64 s, .int .u32 f]] w fun e w' => e = .returned (yesD ((Cal.sec y m d h n s - 59926608000) / 4294967296) ((Cal.sec y m d h n s - 59926608000) % 4294967296 * 4294967296 + f)) ∧ Below w.heap.size w w' := by
  have eD := day_t hd
  have eT := time_t ht
  have HD : Hid (Cal.Day y m d) := hd
  have HT : Hid (Cal.Time h n s) := ht
  obtain ⟨y0, y1, m0, m1, d0, d1'⟩ := hd
  have d1 : d ≤ 31 := by have := Cal.dim_bd y m; omega
  obtain ⟨th0, th1, tn0, tn1, ts0, ts1⟩ := ht
  have e19 : Cal.db 1900 = 693595 := Cal.db_1900
  obtain ⟨b0, b1⟩ := Cal.db_bd y0 (by omega)
  clear d1'
  go_enter Tryd.func20, Tryd.ntmps20
  go_wp2_with fail
  refine (isDay_any y m d _).mono ?_
  rintro e w1 ⟨rfl, hb⟩
  rw [eD]
  obtain ⟨hcl, hfr⟩ := bcell hb
  have hz : w.heap.size + 1 < w1.heap.size := by have := hb.size; simp at this; omega
  have hB : Hid (Below w.heap.size w w1) := by
    refine Below.trans ?_ (hb.mono (by simp; omega))
    exact (by repeat' (first | with_reducible exact Below.refl _ _ | with_reducible refine Below.setCell ?_ (by first | (simp; done) | (simp; omega) | omega) _ | with_reducible refine below_drewN ?_ _ | with_reducible refine Below.drew ?_ | with_reducible refine Below.alloc ?_ (by first | (simp; done) | (simp; omega) | omega) _))
  have p0 : w1.cell? ⟨w.heap.size, 0, none⟩ = some (.int .i64 y) := by rw [hcl _ _ (by simp; omega)]; simp
  have p1 : w1.cell? ⟨w.heap.size, 1, none⟩ = some (.int .i64 m) := by rw [hcl _ _ (by simp; omega)]; simp
  have p2 : w1.cell? ⟨w.heap.size, 2, none⟩ = some (.int .i64 d) := by rw [hcl _ _ (by simp; omega)]; simp
  have p3 : w1.cell? ⟨w.heap.size, 3, none⟩ = some (.int .i64 h) := by rw [hcl _ _ (by simp; omega)]; simp
  have p4 : w1.cell? ⟨w.heap.size, 4, none⟩ = some (.int .i64 n) := by rw [hcl _ _ (by simp; omega)]; simp
  have p5 : w1.cell? ⟨w.heap.size, 5, none⟩ = some (.int .i64 s) := by rw [hcl _ _ (by simp; omega)]; simp
  have p6 : w1.cell? ⟨w.heap.size, 6, none⟩ = some (.int .u32 f) := by rw [hcl _ _ (by simp; omega)]; simp
  have r0 : w1.cell? ⟨w.heap.size + 1, 0, none⟩ = some (.int .i64 0) := by rw [hcl _ _ (by simp)]; simp
  have r1 : w1.cell? ⟨w.heap.size + 1, 1, none⟩ = some (.int .u64 0) := by rw [hcl _ _ (by simp)]; simp
  have rf : ∀ o, w1.frozen? ⟨w.heap.size + 1, o, none⟩ = false := fun o => by rw [hfr _ _ (by simp)]; simp
  clear hcl hfr hb
  go_wp2_with fail
  refine (isTime_any h n s _).mono ?_
  rintro e w2 ⟨rfl, rfl⟩
  rw [eT]
  go_wp2_with fail
  go_quiet ((go_at_call 38; exact Calls.quiet_of_same (daysBefore_any _ _ (by omega) (by omega))))
  rw [e19]
  clear e19
  go_wp2_with fail
  go_loopw [4, 5] (fun t k wr => ∃ j : Int, k = .int .i64 j ∧ t = .int .i64 (Cal.db y - 693595 + d - 1 + Cal.cum y j) ∧ 1 ≤ j ∧ j ≤ m ∧ Hid (Below (w.heap.size + 2) w2 wr)) (fun _ k _ => (12 - intOf k).toNat)
  case atStart => exact ⟨1, rfl, by rw [Cal.cum_1]; go_num, by omega, by omega, below_drewN (Below.refl _ _) _⟩
  case round =>
    obtain ⟨j, rfl, rfl, j0, j1, hR⟩ := hrel
    obtain ⟨cb0, cb1⟩ := Cal.cum_bd y j
    obtain ⟨dd0, dd1⟩ := Cal.dim_bd y j
    have q0 : wr.cell? ⟨w.heap.size, 0, none⟩ = some (.int .i64 y) := by rw [hR.out.cell (by simp)]; exact p0
    have q1 : wr.cell? ⟨w.heap.size, 1, none⟩ = some (.int .i64 m) := by rw [hR.out.cell (by simp)]; exact p1
    by_cases hc : j < m
    · have CS : Hid (Cal.cum y (j + 1) = Cal.cum y j + Cal.dim y j) := Cal.cum_succ y j j0 (by omega)
      clear p0 p1 p2 p3 p4 p5 p6 r0 r1 rf
      go_wp2_with fail
      refine (monthDays_any y j _ (by omega) (by omega) j0 (by omega)).mono ?_
      rintro e w3 ⟨rfl, hb⟩
      have hR2 : Hid (Below (w.heap.size + 2) w2 w3) := hR.out.trans (hb.mono (by have := hR.out.size; omega))
      clear hb hR
      go_wp2
      go_roundw
      case rel => exact ⟨j + 1, rfl, by rw [CS.out]; go_num, by omega, by omega, hR2.out⟩
      case measure => simp [intOf]; omega
    · have e : j = m := by omega
      subst e
      have q3 : wr.cell? ⟨w.heap.size, 3, none⟩ = some (.int .i64 h) := by rw [hR.out.cell (by simp)]; exact p3
      have q4 : wr.cell? ⟨w.heap.size, 4, none⟩ = some (.int .i64 n) := by rw [hR.out.cell (by simp)]; exact p4
      have q5 : wr.cell? ⟨w.heap.size, 5, none⟩ = some (.int .i64 s) := by rw [hR.out.cell (by simp)]; exact p5
      have q6 : wr.cell? ⟨w.heap.size, 6, none⟩ = some (.int .u32 f) := by rw [hR.out.cell (by simp)]; exact p6
      have s0 : wr.cell? ⟨w.heap.size + 1, 0, none⟩ = some (.int .i64 0) := by rw [hR.out.cell (by simp)]; exact r0
      have s1 : wr.cell? ⟨w.heap.size + 1, 1, none⟩ = some (.int .u64 0) := by rw [hR.out.cell (by simp)]; exact r1
      have sf : ∀ o, wr.frozen? ⟨w.heap.size + 1, o, none⟩ = false := fun o => by rw [hR.out.frozen (by simp)]; exact rf o
      clear p0 p1 p2 p3 p4 p5 p6 r0 r1 rf
      go_wp2_with fail
      have HS : Hid ((Cal.db y - 693595 + d - 1 + Cal.cum y j) * 86400 + h * 3600 + n * 60 + s = Cal.sec y j d h n s - 59926608000) := by show _ = _; unfold Cal.sec Cal.num; omega
      rw [HS.out, or_low _ _ (by omega) (by omega) f0 f1]
      exact bodyPost_ret (v := yesD ((Cal.sec y j d h n s - 59926608000) / 4294967296) ((Cal.sec y j d h n s - 59926608000) % 4294967296 * 4294967296 + f)) (by simp [results, Tryd.results20, go_sem, yesD, s0, s1]) rfl ⟨rfl, (by repeat' (first | with_reducible exact Below.refl _ _ | with_reducible exact (hB.out.trans (hR.out.mono (by omega))) | with_reducible refine Below.setCell ?_ (by first | (simp; done) | (simp; omega) | omega) _ | with_reducible refine below_drewN ?_ _ | with_reducible refine Below.drew ?_ | with_reducible refine Below.alloc ?_ (by first | (simp; done) | (simp; omega) | omega) _))⟩
/-- a calendar's date that may be -/
def okD (y m d h n s : Int) : Bool := dayB y m d && timeB h n s
theorem okD_t {y m d h n s : Int} (hd : Cal.Day y m d) (ht : Cal.Time h n s) : okD y m d h n s = true := by unfold okD; rw [day_t hd, time_t ht]; rfl
theorem okD_f {y m d h n s : Int} (hx : ¬ (Cal.Day y m d ∧ Cal.Time h n s)) : okD y m d h n s = false := by
  unfold okD
  by_cases hd : Cal.Day y m d
  · rw [time_f (fun x => hx ⟨hd, x⟩), Bool.and_false]
  · rw [day_f hd, Bool.false_and]
theorem okD_of {y m d h n s : Int} (hx : okD y m d h n s = true) : Cal.Day y m d ∧ Cal.Time h n s := by
  refine Classical.byContradiction fun x => ?_
  rw [okD_f x] at hx
  cases hx
/-- the date's era, stamp and error of a calendar's date -/
def dE (y m d h n s : Int) : Int := if okD y m d h n s then (Cal.sec y m d h n s - 59926608000) / 4294967296 else 0
def dT (y m d h n s f : Int) : Int := if okD y m d h n s then (Cal.sec y m d h n s - 59926608000) % 4294967296 * 4294967296 + f else 0
def dC (y m d h n s : Int) : Int := if okD y m d h n s then 0 else 20
theorem toDate_any (y m d h n s f : Int) (w : World) (f0 : 0 ≤ f) (f1 : f < 4294967296) :
    Calls Tryd.prog 20 #[.agg #[.int .i64 y, .int .i64 m, .int .i64 d, .int .i64 h, .int .i64 n, .int .i64 s, .int .u32 f]] w fun e w' => e = .returned (.tuple #[.agg #[.int .i64 (dE y m d h n s), .int .u64 (dT y m d h n s f)], .int .i64 (dC y m d h n s)]) ∧ Below w.heap.size w w' := by
  by_cases hx : Cal.Day y m d ∧ Cal.Time h n s
  · refine (toDate_yes y m d h n s f w hx.1 hx.2 f0 f1).mono ?_
    rintro e w' ⟨rfl, hb⟩
    exact ⟨by unfold dE dT dC yesD; rw [okD_t hx.1 hx.2]; rfl, hb⟩
  · refine (toDate_no y m d h n s f w hx).mono ?_
    rintro e w' ⟨rfl, hb⟩
    exact ⟨by unfold dE dT dC noD; rw [okD_f hx]; rfl, hb⟩
end Go.Proofs.YthoilihokbakoaaDoor
