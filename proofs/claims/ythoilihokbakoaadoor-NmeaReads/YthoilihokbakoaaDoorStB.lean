/- What isDay, isTime and civilDay of package stamp return, for every input. -/
import Derived.Test.YthoilihokbakoaaDoorStA
import Derived.WalkKit
import Derived.WalkSpells
import Derived.WalkLawsBesides
import Derived.Handy
import Derived.Below
namespace Go.Proofs.YthoilihokbakoaaDoor
open Go.RowKit
def dayB (y m d : Int) : Bool := decide (1 ≤ y ∧ y ≤ 2100 ∧ 1 ≤ m ∧ m ≤ 12 ∧ 1 ≤ d ∧ d ≤ Cal.dim y m)
def timeB (h n s : Int) : Bool := decide (0 ≤ h ∧ h ≤ 23 ∧ 0 ≤ n ∧ n ≤ 59 ∧ 0 ≤ s ∧ s ≤ 59)
theorem day_t {y m d : Int} (h : Cal.Day y m d) : dayB y m d = true := decide_eq_true h
theorem day_f {y m d : Int} (h : ¬ Cal.Day y m d) : dayB y m d = false := decide_eq_false h
theorem time_t {h n s : Int} (x : Cal.Time h n s) : timeB h n s = true := decide_eq_true x
theorem time_f {h n s : Int} (x : ¬ Cal.Time h n s) : timeB h n s = false := decide_eq_false x
set_option maxHeartbeats 400000 in
theorem isDay_any (y m d : Int) (w : World) :
    Calls Tryd.prog 36 #[.int .i64 y, .int .i64 m, .int .i64 d] w fun e w' => e = .returned (.bool (dayB y m d)) ∧ Below w.heap.size w w' := by
  by_cases hy : 1 ≤ y ∧ y ≤ 2100
  · have ey := wi_t hy
    by_cases hm : 1 ≤ m ∧ m ≤ 12
    · have em := wi_t hm
      have HD : Hid (wiB d 1 (Cal.dim y m) = dayB y m d) := by show _ = _; rw [Bool.eq_iff_iff]; simp [wiB, dayB, hy, hm]
      obtain ⟨y0, y1⟩ := hy
      obtain ⟨m0, m1⟩ := hm
      go_enter Tryd.func36, Tryd.ntmps36
      go_wp2_with fail
      refine (isWithin_any y 1 2100 _).mono ?_
      rintro e w1 ⟨rfl, rfl⟩
      go_wp2_with fail
      refine (isWithin_any m 1 12 _).mono ?_
      rintro e w1 ⟨rfl, rfl⟩
      go_wp2_with fail
      refine (monthDays_any y m _ (by omega) (by omega) m0 m1).mono ?_
      rintro e w2 ⟨rfl, hb⟩
      go_wp2_with fail
      refine (isWithin_any d 1 _ _).mono ?_
      rintro e w3 ⟨rfl, rfl⟩
      rw [HD.out]
      go_wp2
      go_ret
      exact ⟨rfl, hb⟩
    · have em := wi_f hm
      have HD : Hid (dayB y m d = false) := day_f (fun x => by obtain ⟨_, _, _, _, _, _⟩ := x; omega)
      go_enter Tryd.func36, Tryd.ntmps36
      go_wp2_with fail
      refine (isWithin_any y 1 2100 _).mono ?_
      rintro e w1 ⟨rfl, rfl⟩
      go_wp2_with fail
      refine (isWithin_any m 1 12 _).mono ?_
      rintro e w1 ⟨rfl, rfl⟩
      go_wp2
      go_ret
      exact ⟨ret_bool' HD.out.symm, Below.refl _ _⟩
  · have ey := wi_f hy
    have HD : Hid (dayB y m d = false) := day_f (fun x => by obtain ⟨_, _, _, _, _, _⟩ := x; omega)
    go_enter Tryd.func36, Tryd.ntmps36
    go_wp2_with fail
    refine (isWithin_any y 1 2100 _).mono ?_
    rintro e w1 ⟨rfl, rfl⟩
    go_wp2
    go_ret
    exact ⟨ret_bool' HD.out.symm, Below.refl _ _⟩
set_option maxHeartbeats 400000 in
theorem isTime_any (h n s : Int) (w : World) :
    Calls Tryd.prog 37 #[.int .i64 h, .int .i64 n, .int .i64 s] w fun e w' => e = .returned (.bool (timeB h n s)) ∧ w' = w := by
  by_cases hh : 0 ≤ h ∧ h ≤ 23
  · have eh := wi_t hh
    by_cases hn : 0 ≤ n ∧ n ≤ 59
    · have en := wi_t hn
      have HD : Hid (wiB s 0 59 = timeB h n s) := by show _ = _; rw [Bool.eq_iff_iff]; simp [wiB, timeB, hh, hn]
      go_enter Tryd.func37, Tryd.ntmps37
      go_wp2_with fail
      refine (isWithin_any h 0 23 _).mono ?_
      rintro e w1 ⟨rfl, rfl⟩
      go_wp2_with fail
      refine (isWithin_any n 0 59 _).mono ?_
      rintro e w1 ⟨rfl, rfl⟩
      go_wp2_with fail
      refine (isWithin_any s 0 59 _).mono ?_
      rintro e w3 ⟨rfl, rfl⟩
      rw [HD.out]
      go_wp2
      go_ret
      exact ⟨rfl, rfl⟩
    · have en := wi_f hn
      have HD : Hid (timeB h n s = false) := time_f (fun x => by obtain ⟨_, _, _, _, _, _⟩ := x; omega)
      go_enter Tryd.func37, Tryd.ntmps37
      go_wp2_with fail
      refine (isWithin_any h 0 23 _).mono ?_
      rintro e w1 ⟨rfl, rfl⟩
      go_wp2_with fail
      refine (isWithin_any n 0 59 _).mono ?_
      rintro e w1 ⟨rfl, rfl⟩
      go_wp2
      go_ret
      exact ⟨ret_bool' HD.out.symm, rfl⟩
  · have eh := wi_f hh
    have HD : Hid (timeB h n s = false) := time_f (fun x => by obtain ⟨_, _, _, _, _, _⟩ := x; omega)
    go_enter Tryd.func37, Tryd.ntmps37
    go_wp2_with fail
    refine (isWithin_any h 0 23 _).mono ?_
    rintro e w1 ⟨rfl, rfl⟩
    go_wp2
    go_ret
    exact ⟨ret_bool' HD.out.symm, rfl⟩
theorem bcell {W w1 : World} (hb : Below W.heap.size W w1) : (∀ b o, b < W.heap.size → w1.cell? ⟨b, o, none⟩ = W.cell? ⟨b, o, none⟩) ∧ (∀ b o, b < W.heap.size → w1.frozen? ⟨b, o, none⟩ = W.frozen? ⟨b, o, none⟩) :=
  ⟨fun b o h => hb.cell (p := ⟨b, o, none⟩) h, fun b o h => hb.frozen (p := ⟨b, o, none⟩) h⟩
theorem guess (n : Int) (h0 : 0 ≤ n) (h1 : n < 767009) : Cal.db (n / 366 + 1) ≤ n ∧ 1 ≤ n / 366 + 1 ∧ n / 366 + 1 ≤ 2100 := by unfold Cal.db; omega
set_option maxHeartbeats 1000000 in
theorem civilDay_any (n : Int) (w : World) (h0 : 0 ≤ n) (h1 : n < 767009) :
    Calls Tryd.prog 40 #[.int .i64 n] w fun e w' => ∃ y m d : Int, e = .returned (.agg #[.int .i64 y, .int .i64 m, .int .i64 d, .int .i64 0, .int .i64 0, .int .i64 0, .int .u32 0]) ∧ Cal.Day y m d ∧ Cal.num y m d = n ∧ Below w.heap.size w w' := by
  obtain ⟨g0, g1, g2⟩ := guess n h0 h1
  go_enter Tryd.func40, Tryd.ntmps40
  go_wp2
  go_loop [3] (fun t => ∃ y : Int, t = .int .i64 y ∧ 1 ≤ y ∧ y ≤ 2100 ∧ Hid (Cal.db y ≤ n)) (fun t => (2101 - intOf t).toNat)
  case atStart => exact ⟨_, rfl, by omega, by omega, g0⟩
  case round =>
    obtain ⟨y, rfl, hy1, hy2, hy3⟩ := hrel
    by_cases hc : Cal.db (y + 1) ≤ n
    · have hl : y + 1 ≤ 2100 := by
        refine Decidable.byContradiction fun x => ?_
        have e : y = 2100 := by omega
        subst e
        have := Cal.db_2101
        simp at hc
        omega
      go_wp2_with (go_at_call 38; refine (daysBefore_any _ _ (by omega) (by omega)).mono ?_; rintro e w' ⟨rfl, rfl⟩)
      go_round
      case rel => exact ⟨y + 1, rfl, by omega, by omega, hc⟩
      case measure => simp [intOf]; omega
    · have hb0 := Cal.db_bd hy1 (by omega)
      obtain ⟨hb1, hb2⟩ := hb0
      have hy3' := hy3.out
      have HS : Hid (n < Cal.db y + 365 + Cal.lp y) := by show _ < _; have := Cal.db_succ y; omega
      clear g0 g1 g2
      go_wp2_with fail
      refine (daysBefore_any _ _ (by omega) (by omega)).mono ?_
      rintro e w' ⟨rfl, rfl⟩
      go_wp2_with fail
      refine (daysBefore_any _ _ (by omega) (by omega)).mono ?_
      rintro e w' ⟨rfl, rfl⟩
      clear hc
      go_wp2_with fail
      go_loopw [0, 4] (fun r k wr => ∃ m : Int, k = .int .i64 m ∧ r = .int .i64 (n - Cal.db y - Cal.cum y m) ∧ 1 ≤ m ∧ m ≤ 12 ∧ 0 ≤ n - Cal.db y - Cal.cum y m ∧ Hid (Below (w.heap.size + 1) (w.alloc (Obj.cells #[.int .i64 0, .int .i64 0, .int .i64 0, .int .i64 0, .int .i64 0, .int .i64 0, .int .u32 0] 52)) wr)) (fun _ k _ => (12 - intOf k).toNat)
      case atStart => exact ⟨1, rfl, by simp [Cal.cum_1], by omega, by omega, by simp [Cal.cum_1]; omega, Below.refl _ _⟩
      case round =>
        obtain ⟨m, rfl, rfl, m0, m1, r0, hB⟩ := hrel
        have cb := Cal.cum_bd y m
        obtain ⟨cb0, cb1⟩ := cb
        have dd := Cal.dim_bd y m
        obtain ⟨dd0, dd1⟩ := dd
        have CS : Hid (Cal.cum y (m + 1) = Cal.cum y m + Cal.dim y m) := Cal.cum_succ y m m0 m1
        go_wp2_with fail
        refine (monthDays_any y m _ (by omega) (by omega) m0 m1).mono ?_
        rintro e w1 ⟨rfl, hb1⟩
        have B1 : Hid (Below (w.heap.size + 1) (w.alloc (Obj.cells #[.int .i64 0, .int .i64 0, .int .i64 0, .int .i64 0, .int .i64 0, .int .i64 0, .int .u32 0] 52)) w1) := hB.out.trans (hb1.mono (by have := hB.out.size; simpa using this))
        clear hB hb1
        by_cases hc : Cal.dim y m ≤ n - Cal.db y - Cal.cum y m
        · have hm : m + 1 ≤ 12 := by
            refine Decidable.byContradiction fun x => ?_
            have e : m = 12 := by omega
            subst e
            have h2 := CS.out
            have h3 := Cal.cum_13 y
            have h4 := HS.out
            simp at h2
            omega
          go_wp2_with fail
          refine (monthDays_any y m _ (by omega) (by omega) m0 m1).mono ?_
          rintro e w2 ⟨rfl, hb2⟩
          have B2 : Hid (Below (w.heap.size + 1) (w.alloc (Obj.cells #[.int .i64 0, .int .i64 0, .int .i64 0, .int .i64 0, .int .i64 0, .int .i64 0, .int .u32 0] 52)) w2) := B1.out.trans (hb2.mono (by have := B1.out.size; simpa using this))
          clear B1 hb2
          go_wp2
          go_roundw
          case rel => exact ⟨m + 1, rfl, by rw [CS.out]; go_num, by omega, by omega, by rw [CS.out]; omega, B2.out⟩
          case measure => simp [intOf]; omega
        · obtain ⟨hcl, hfr⟩ := bcell (W := w.alloc (Obj.cells #[.int .i64 0, .int .i64 0, .int .i64 0, .int .i64 0, .int .i64 0, .int .i64 0, .int .u32 0] 52)) (w1 := w1) (by simpa using B1.out)
          have hz : w.heap.size < w1.heap.size := by have := B1.out.size; simp at this; omega
          have HD : Hid (Cal.Day y m (n - Cal.db y - Cal.cum y m + 1)) := ⟨hy1, hy2, m0, m1, by omega, by omega⟩
          go_wp2
          refine bodyPost_ret (v := .agg #[.int .i64 y, .int .i64 m, .int .i64 (n - Cal.db y - Cal.cum y m + 1), .int .i64 0, .int .i64 0, .int .i64 0, .int .u32 0]) (by simp [results, Tryd.results40, go_sem, hcl]) rfl ⟨y, m, _, rfl, HD.out, by unfold Cal.num; omega, ?_⟩
          have b0 : Below w.heap.size w w1 := ((Below.refl _ _).alloc (Nat.le_refl _) _).trans (B1.out.mono (by omega))
          exact ((((((b0.setCell (by simp) _).setCell (by simp) _).setCell (by simp) _).setCell (by simp) _).setCell (by simp) _).setCell (by simp) _).setCell (by simp) _
end Go.Proofs.YthoilihokbakoaaDoor
