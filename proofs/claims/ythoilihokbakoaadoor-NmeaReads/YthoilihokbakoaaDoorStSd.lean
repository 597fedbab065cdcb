/- What the reference's ToDate returns. -/
import Derived.Test.YthoilihokbakoaaDoorStR
import Derived.Test.YthoilihokbakoaaDoorStD
import Derived.WalkKit
import Derived.WalkSpells
import Derived.WalkLawsBesides
import Derived.Handy
import Derived.Below
import Derived.Deep.QuietTactic
import Derived.BigQuiet
namespace Go.Proofs.YthoilihokbakoaaDoor
open Go.RowKit
set_option maxRecDepth 20000 in
set_option maxHeartbeats 4000000 in
theorem rtoDate_yes (y m d h n s f : Int) (w : World) (hd : Cal.Day y m d) (ht : Cal.Time h n s) (f0 : 0 ≤ f) (f1 : f < 4294967296) :
    Calls Tryd.prog 23 #[.agg #[.int .i64 y, .int .i64 m, .int .i64 d, .int .i64 h, .int .i64 n, .int .i64 s, .int .u32 f]] w fun e w' => e = .returned (yesD ((Cal.sec y m d h n s - 59926608000) / 4294967296) ((Cal.sec y m d h n s - 59926608000) % 4294967296 * 4294967296 + f)) ∧ Below w.heap.size w w' := by
  obtain ⟨sb0, sb1⟩ := Cal.sec_bd hd ht
  have HSB : Hid (0 ≤ Cal.sec y m d h n s ∧ Cal.sec y m d h n s < 66269577600) := ⟨sb0, sb1⟩
  obtain ⟨y0, y1, m0, m1, d0, d1⟩ := hd
  have d2 : d ≤ 31 := by have := Cal.dim_bd y m; omega
  obtain ⟨h0, h1, n0, n1, s0, s1⟩ := ht
  have e19 : Cal.db 1900 = 693595 := Cal.db_1900
  obtain ⟨b0, b1⟩ := Cal.db_bd y0 (by omega)
  clear sb0 sb1
  have k0 : decide (y < 1) = false := by rw [decide_eq_false_iff_not]; omega
  have k1 : decide (2100 < y) = false := by rw [decide_eq_false_iff_not]; omega
  have k2 : decide (m < 1) = false := by rw [decide_eq_false_iff_not]; omega
  have k3 : decide (12 < m) = false := by rw [decide_eq_false_iff_not]; omega
  have k4 : decide (d < 1) = false := by rw [decide_eq_false_iff_not]; omega
  have k5 : decide (Cal.dim y m < d) = false := by rw [decide_eq_false_iff_not]; omega
  have k6 : decide (h < 0) = false := by rw [decide_eq_false_iff_not]; omega
  have k7 : decide (23 < h) = false := by rw [decide_eq_false_iff_not]; omega
  have k8 : decide (n < 0) = false := by rw [decide_eq_false_iff_not]; omega
  have k9 : decide (59 < n) = false := by rw [decide_eq_false_iff_not]; omega
  have k10 : decide (s < 0) = false := by rw [decide_eq_false_iff_not]; omega
  have k11 : decide (59 < s) = false := by rw [decide_eq_false_iff_not]; omega
  go_enter Tryd.func23, Tryd.ntmps23
  go_wp2
  go_quiet ((go_at_call 30; exact Calls.quiet_of_same (rmonth_any y m _ (by omega) (by omega) m0 m1)))
  obtain ⟨W1, hW1⟩ : ∃ W1, W1 = (((w.alloc (Obj.cells #[.int .i64 y, .int .i64 m, .int .i64 d, .int .i64 h, .int .i64 n, .int .i64 s, .int .u32 f] 43)).alloc (Obj.cells #[.int .i64 0, .int .u64 0] 32)).drewN nq) := ⟨_, rfl⟩
  have p0 : W1.cell? ⟨w.heap.size, 0, none⟩ = some (.int .i64 y) := by rw [hW1]; simp
  have p1 : W1.cell? ⟨w.heap.size, 1, none⟩ = some (.int .i64 m) := by rw [hW1]; simp
  have p2 : W1.cell? ⟨w.heap.size, 2, none⟩ = some (.int .i64 d) := by rw [hW1]; simp
  have p3 : W1.cell? ⟨w.heap.size, 3, none⟩ = some (.int .i64 h) := by rw [hW1]; simp
  have p4 : W1.cell? ⟨w.heap.size, 4, none⟩ = some (.int .i64 n) := by rw [hW1]; simp
  have p5 : W1.cell? ⟨w.heap.size, 5, none⟩ = some (.int .i64 s) := by rw [hW1]; simp
  have p6 : W1.cell? ⟨w.heap.size, 6, none⟩ = some (.int .u32 f) := by rw [hW1]; simp
  have r0 : W1.cell? ⟨w.heap.size + 1, 0, none⟩ = some (.int .i64 0) := by rw [hW1]; simp
  have r1 : W1.cell? ⟨w.heap.size + 1, 1, none⟩ = some (.int .u64 0) := by rw [hW1]; simp
  have rf : ∀ o, W1.frozen? ⟨w.heap.size + 1, o, none⟩ = false := fun o => by rw [hW1]; simp
  have hB : Hid (Below w.heap.size w W1) := by show Below _ _ _; rw [hW1]; exact (by repeat' (first | with_reducible exact Below.refl _ _ | with_reducible refine Below.setCell ?_ (by first | (simp; done) | (simp; omega) | omega) _ | with_reducible refine below_drewN ?_ _ | with_reducible refine Below.drew ?_ | with_reducible refine Below.alloc ?_ (by first | (simp; done) | (simp; omega) | omega) _))
  have hz : w.heap.size + 1 < W1.heap.size := by rw [hW1]; simp
  have hz0 : w.heap.size < W1.heap.size := by omega
  rw [← hW1]
  clear hW1 k0 k1 k2 k3 k4 k5 k6 k7 k8 k9 k10 k11
  go_wp2_with fail
  go_quiet ((go_at_call 28; exact Calls.quiet_of_same (rfirst_any _ _ (by omega) (by omega))))
  rw [e19]
  clear e19
  obtain ⟨W2, hW2⟩ : ∃ W2, W2 = W1.drewN nq := ⟨_, rfl⟩
  have q0 : W2.cell? ⟨w.heap.size, 0, none⟩ = some (.int .i64 y) := by rw [hW2]; simpa using p0
  have q1 : W2.cell? ⟨w.heap.size, 1, none⟩ = some (.int .i64 m) := by rw [hW2]; simpa using p1
  have q3 : W2.cell? ⟨w.heap.size, 3, none⟩ = some (.int .i64 h) := by rw [hW2]; simpa using p3
  have q4 : W2.cell? ⟨w.heap.size, 4, none⟩ = some (.int .i64 n) := by rw [hW2]; simpa using p4
  have q5 : W2.cell? ⟨w.heap.size, 5, none⟩ = some (.int .i64 s) := by rw [hW2]; simpa using p5
  have q6 : W2.cell? ⟨w.heap.size, 6, none⟩ = some (.int .u32 f) := by rw [hW2]; simpa using p6
  have s0' : W2.cell? ⟨w.heap.size + 1, 0, none⟩ = some (.int .i64 0) := by rw [hW2]; simpa using r0
  have s1' : W2.cell? ⟨w.heap.size + 1, 1, none⟩ = some (.int .u64 0) := by rw [hW2]; simpa using r1
  have sf : ∀ o, W2.frozen? ⟨w.heap.size + 1, o, none⟩ = false := fun o => by rw [hW2]; simpa using rf o
  have hB2 : Hid (Below w.heap.size w W2) := by show Below _ _ _; rw [hW2]; exact below_drewN hB.out _
  have hx : w.heap.size + 1 < W2.heap.size := by rw [hW2]; simpa using hz
  have hx0 : w.heap.size < W2.heap.size := by omega
  rw [← hW2]
  clear hW2 p0 p1 p2 p3 p4 p5 p6 r0 r1 rf hz hz0 hB
  go_wp2_with fail
  go_loop [4, 5] (fun t k => ∃ j : Int, k = .int .i64 j ∧ t = .int .i64 (Cal.db y - 693595 + d - 1 + Cal.cum y j) ∧ 1 ≤ j ∧ j ≤ m) (fun _ k => (12 - intOf k).toNat)
  case atStart => exact ⟨1, rfl, by rw [Cal.cum_1]; go_num, by omega, by omega⟩
  case round =>
    obtain ⟨j, rfl, rfl, j0, j1⟩ := hrel
    obtain ⟨cb0, cb1⟩ := Cal.cum_bd y j
    obtain ⟨dd0, dd1⟩ := Cal.dim_bd y j
    by_cases hc : j < m
    · have CS : Hid (Cal.cum y (j + 1) = Cal.cum y j + Cal.dim y j) := Cal.cum_succ y j j0 (by omega)
      go_wp2_with fail
      refine (rmonth_any y j _ (by omega) (by omega) j0 (by omega)).mono ?_
      rintro e w3 ⟨rfl, rfl⟩
      go_wp2
      go_round
      case rel => exact ⟨j + 1, rfl, by rw [CS.out]; go_num, by omega, by omega⟩
      case measure => simp [intOf]; omega
    · have e : j = m := by omega
      subst e
      have HS : Hid ((Cal.db y - 693595 + d - 1 + Cal.cum y j) * 86400 + h * 3600 + n * 60 + s = Cal.sec y j d h n s - 59926608000) := by show _ = _; unfold Cal.sec Cal.num; omega
      have T0 := HSB.out
      go_wp2_with fail
      rw [HS.out]
      obtain ⟨T, hT⟩ : ∃ T, T = Cal.sec y j d h n s - 59926608000 := ⟨_, rfl⟩
      rw [← hT]
      have HT : Hid (T = Cal.sec y j d h n s - 59926608000) := hT
      have T1 : -59926608000 ≤ T := by omega
      have T2 : T ≤ 6342969600 := by omega
      clear hT T0 hc HSB
      go_loopw [6] (fun a wr => ∃ k x : Int, a = .int .i64 x ∧ T = k * 4294967296 + x ∧ -59926608000 ≤ x ∧ x ≤ 6342969600 ∧ -20 ≤ k ∧ k ≤ 0 ∧ wr = W2.alloc (Obj.cells #[.int .i64 k, .int .u64 f] 32)) (fun a _ => (-intOf a).toNat)
      case atStart => exact ⟨0, T, rfl, by omega, T1, T2, by omega, by omega, rfl⟩
      case round =>
        obtain ⟨k, x, rfl, hk, x0, x1, k0, k1, rfl⟩ := hrel
        have HK : Hid (T = k * 4294967296 + x) := hk
        by_cases hc : x < 0
        · have k2 : -20 ≤ k - 1 := by omega
          clear hk
          go_wp2
          go_roundw
          case rel => exact ⟨k - 1, x + 4294967296, rfl, by have := HK.out; omega, by omega, by omega, k2, by omega, rfl⟩
          case measure => simp [intOf]; omega
        · clear hk
          go_wp2_with fail
          go_loopw [6] (fun a wr => ∃ k x : Int, a = .int .i64 x ∧ T = k * 4294967296 + x ∧ 0 ≤ x ∧ x ≤ 6342969600 ∧ -20 ≤ k ∧ k ≤ 20 ∧ wr = W2.alloc (Obj.cells #[.int .i64 k, .int .u64 f] 32)) (fun a _ => (intOf a).toNat)
          case atStart => exact ⟨k, x, rfl, HK.out, by omega, x1, by omega, by omega, rfl⟩
          case round =>
            clear HK hc x0 x1 k0 k1
            obtain ⟨k, x, rfl, hk, x0, x1, k0, k1, rfl⟩ := hrel
            have HK : Hid (T = k * 4294967296 + x) := hk
            by_cases hc : 4294967296 ≤ x
            · have k2 : k + 1 ≤ 20 := by omega
              clear hk
              go_wp2
              go_roundw
              case rel => exact ⟨k + 1, x - 4294967296, rfl, by have := HK.out; omega, by omega, by omega, by omega, k2, rfl⟩
              case measure => simp [intOf]; omega
            · clear hk
              have E1 : Hid (k = (Cal.sec y j d h n s - 59926608000) / 4294967296) := by show _ = _; rw [← HT.out, HK.out]; omega
              have E2 : Hid (f + x * 4294967296 = (Cal.sec y j d h n s - 59926608000) % 4294967296 * 4294967296 + f) := by show _ = _; rw [← HT.out, HK.out]; omega
              go_wp2_with fail
              exact bodyPost_ret (v := yesD k (f + x * 4294967296)) (by simp [results, Tryd.results23, go_sem, yesD, s0', s1', hx]) rfl ⟨by rw [← E1.out, ← E2.out], (by repeat' (first | with_reducible exact Below.refl _ _ | with_reducible exact hB2.out | with_reducible refine Below.setCell ?_ (by first | (simp; done) | (simp; omega) | omega) _ | with_reducible refine below_drewN ?_ _ | with_reducible refine Below.drew ?_ | with_reducible refine Below.alloc ?_ (by first | (simp; done) | (simp; omega) | omega) _))⟩
end Go.Proofs.YthoilihokbakoaaDoor
