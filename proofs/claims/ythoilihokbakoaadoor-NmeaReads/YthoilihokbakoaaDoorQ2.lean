/- The reference's Time of a sentence RMC, walked. -/
import Derived.Test.YthoilihokbakoaaDoorQY
namespace Go.Proofs.YthoilihokbakoaaDoor
open Go Go.RowKit
set_option linter.unusedVariables false
set_option maxHeartbeats 4000000 in
theorem rtime_rmc1 (S : ByteArray) (ts : List (List UInt8)) (f0 f1 f2 f9 : List UInt8) (w : World) (hS : S.size ≤ 65536) (he : ckE S.data.toList = 0) (hts : flds S.data.toList = ts) (hb5 : 5 ≤ ts.length) (hb1 : ts.length ≤ 100000)
    (h0 : ts.getD 0 [] = f0) (h1 : ts.getD 1 [] = f1) (h2 : ts.getD 2 [] = f2) (h9 : ts.getD 9 [] = f9) (hn5 : f0.length = 5) (hrm : f0.drop 2 = [82, 77, 67]) (l1 : f1.length ≤ 100000) (l9 : f9.length ≤ 100000)
    (hten : ts.length < 10) :
    Calls Tryd.prog 8 #[.string S] w fun e w' => e = .returned (noD 21) ∧ Below w.heap.size w w' := by
  obtain ⟨RV, hRV⟩ : ∃ RV, RV = noD 21 := ⟨_, rfl⟩
  rw [← hRV]
  have HC : Hid (∀ u : World, Calls Tryd.prog 6 #[.string S] u fun e w' => ∃ v, e = .returned (.tuple #[v, .int .i64 0]) ∧ Hid (OwT w' u.heap.size v ts ∧ Below u.heap.size u w')) := fun u => by
    have h := rcheck_ok S u (by omega) he
    rw [hts] at h
    exact h
  have HK : Hid (∀ u : World, Calls Tryd.prog 21 #[.string (tx f1)] u fun e w' => ∃ H N S F : Int, Hid (ClP f1 H N S F) ∧ e = .returned (.tuple #[.agg #[.int .i64 0, .int .i64 0, .int .i64 0, .int .i64 H, .int .i64 N, .int .i64 S, .int .u32 F], .bool (tdB f1)]) ∧ Below u.heap.size u w') := fun u => by
    have h := rclock_any (tx f1) u (by rw [tx_z]; exact l1)
    rw [tx_data] at h
    exact h
  clear he hts hS l1 l9
  go_enter Tryd.func8, Tryd.ntmps8
  go_wp2_with fail
  refine (HC.out _).mono ?_
  rintro e w1 ⟨v, rfl, hh⟩
  obtain ⟨hcl, hfr⟩ := bcell hh.out.2
  have hz1 : w.heap.size + 1 < w1.heap.size := by have := hh.out.2.size; simp at this; omega
  have hB1 : Hid (Below w.heap.size w w1) := by
    refine Below.trans ?_ (hh.out.2.mono (by simp; omega))
    exact (by repeat' (first | with_reducible exact Below.refl _ _ | with_reducible refine Below.setCell ?_ (by first | (simp; done) | (simp; omega) | omega) _ | with_reducible refine below_drewN ?_ _ | with_reducible refine Below.drew ?_ | with_reducible refine Below.alloc ?_ (by first | (simp; done) | (simp; omega) | omega) _))
  obtain ⟨g, o, cap, rfl, hg, hc⟩ := hh.out.1.rt.rowD (by omega)
  have r0 : w1.cell? ⟨w.heap.size, 0, none⟩ = some (.int .i64 0) := by rw [hcl _ _ (by simp; omega)]; simp
  have r1 : w1.cell? ⟨w.heap.size, 1, none⟩ = some (.int .u64 0) := by rw [hcl _ _ (by simp; omega)]; simp
  have n0 : w1.cell? ⟨w.heap.size + 1, 0, none⟩ = some (.int .i64 0) := by rw [hcl _ _ (by simp)]; simp
  have n1 : w1.cell? ⟨w.heap.size + 1, 1, none⟩ = some (.int .u64 0) := by rw [hcl _ _ (by simp)]; simp
  have rf : ∀ o, w1.frozen? ⟨w.heap.size, o, none⟩ = false := fun o => by rw [hfr _ _ (by simp; omega)]; simp
  have hz0 : w.heap.size < w1.heap.size := by omega
  have k0 := hc 0 (by omega)
  rw [Nat.add_zero, h0] at k0
  have k1 := hc 1 (by omega)
  rw [h1] at k1
  obtain ⟨L, hL⟩ : ∃ L, L = ts.length := ⟨_, rfl⟩
  rw [← hL] at hb5 hb1 ⊢
  obtain ⟨X, hX⟩ : ∃ X, X = tx f0 := ⟨_, rfl⟩
  have hs : X.size = 5 := by rw [hX]; exact hn5
  have e1 : ((X.size : Int) != 5) = false := by rw [hs]; rfl
  have e2 : 2 ≤ (X.size : Int) := by omega
  have e4 : (X.size : Int) ≤ 5 := by omega
  obtain ⟨E, hE⟩ : ∃ E, X.extract 2 X.size = E := ⟨_, rfl⟩
  have eX : E.toList = f0.drop 2 := by
    rw [← hE, Lib.toList_data, hX, extract_tx, tx_data, tx_data, List.take_of_length_le (by rw [List.length_drop, tx_z]; omega)]
  rw [← hX] at k0
  have hLi : 5 ≤ (L : Int) := by omega
  have hLj : (L : Int) ≤ 100000 := by omega
  have b1 : (E.toList == [90, 68, 65]) = false := by rw [eX, hrm]; rfl
  have b2 : (E.toList == [82, 77, 67]) = true := by rw [eX, hrm]; rfl
  rw [← hL] at hten
  have hL10 : (L : Int) < 10 := by omega
  clear hX hs eX hL hc hcl hfr hh HC hn5 hrm h0 h1 h2 h9 hb5 hb1 hten
  go_wp2_with fail
  refine (HK.out _).mono ?_
  rintro e w2 ⟨H, N, Se, F, hcp, rfl, hb2⟩
  have hz2 : w.heap.size + 1 < w2.heap.size := by have := hb2.size; omega
  have hz3 : w.heap.size < w2.heap.size := by omega
  have hgz : g < w2.heap.size := by have := hb2.size; omega
  have hgn : g ≠ w2.heap.size := by omega
  have hrn : w.heap.size ≠ w2.heap.size := by omega
  have hnn : w.heap.size + 1 ≠ w2.heap.size := by omega
  have hB2 : Hid (Below w.heap.size w w2) := hB1.out.trans (hb2.mono (by omega))
  have s0 : w2.cell? ⟨w.heap.size, 0, none⟩ = some (.int .i64 0) := (hb2.cell (p := ⟨w.heap.size, 0, none⟩) hz0).trans r0
  have s1 : w2.cell? ⟨w.heap.size, 1, none⟩ = some (.int .u64 0) := (hb2.cell (p := ⟨w.heap.size, 1, none⟩) hz0).trans r1
  have m0 : w2.cell? ⟨w.heap.size + 1, 0, none⟩ = some (.int .i64 0) := (hb2.cell (p := ⟨w.heap.size + 1, 0, none⟩) hz1).trans n0
  have m1 : w2.cell? ⟨w.heap.size + 1, 1, none⟩ = some (.int .u64 0) := (hb2.cell (p := ⟨w.heap.size + 1, 1, none⟩) hz1).trans n1
  have sf : ∀ o, w2.frozen? ⟨w.heap.size, o, none⟩ = false := fun o => (hb2.frozen (p := ⟨w.heap.size, o, none⟩) hz0).trans (rf o)
  have j0 : w2.cell? ⟨g, o, none⟩ = some (.string X) := (hb2.cell (p := ⟨g, o, none⟩) hg).trans k0
  clear hb2 r0 r1 n0 n1 rf hB1 hz0 hz1 hg HK k0 k1
  clear hcp
  generalize tdB f1 = tb at *
  simp only []
  repeat (first | go_values | go_skip | go_guarded | go_step | go_upon)
  exact bodyPost_ret (v := RV) (by rw [hRV]; simp [results, Tryd.results8, go_sem, noD, s0, s1, hz3]) rfl ⟨rfl, (by repeat' (first | with_reducible exact Below.refl _ _ | with_reducible exact hB2.out | with_reducible refine Below.setCell ?_ (by first | (simp; done) | (simp; omega) | omega) _ | with_reducible refine below_drewN ?_ _ | with_reducible refine Below.drew ?_ | with_reducible refine Below.alloc ?_ (by first | (simp; done) | (simp; omega) | omega) _))⟩
set_option maxHeartbeats 4000000 in
theorem rtime_rmc2 (S : ByteArray) (ts : List (List UInt8)) (f0 f1 f2 f9 : List UInt8) (w : World) (hS : S.size ≤ 65536) (he : ckE S.data.toList = 0) (hts : flds S.data.toList = ts) (hb5 : 5 ≤ ts.length) (hb1 : ts.length ≤ 100000)
    (h0 : ts.getD 0 [] = f0) (h1 : ts.getD 1 [] = f1) (h2 : ts.getD 2 [] = f2) (h9 : ts.getD 9 [] = f9) (hn5 : f0.length = 5) (hrm : f0.drop 2 = [82, 77, 67]) (l1 : f1.length ≤ 100000) (l9 : f9.length ≤ 100000)
    (hten : 10 ≤ ts.length) (hA : f2 ≠ [65]) :
    Calls Tryd.prog 8 #[.string S] w fun e w' => e = .returned (noD 21) ∧ Below w.heap.size w w' := by
  obtain ⟨RV, hRV⟩ : ∃ RV, RV = noD 21 := ⟨_, rfl⟩
  rw [← hRV]
  have HC : Hid (∀ u : World, Calls Tryd.prog 6 #[.string S] u fun e w' => ∃ v, e = .returned (.tuple #[v, .int .i64 0]) ∧ Hid (OwT w' u.heap.size v ts ∧ Below u.heap.size u w')) := fun u => by
    have h := rcheck_ok S u (by omega) he
    rw [hts] at h
    exact h
  have HK : Hid (∀ u : World, Calls Tryd.prog 21 #[.string (tx f1)] u fun e w' => ∃ H N S F : Int, Hid (ClP f1 H N S F) ∧ e = .returned (.tuple #[.agg #[.int .i64 0, .int .i64 0, .int .i64 0, .int .i64 H, .int .i64 N, .int .i64 S, .int .u32 F], .bool (tdB f1)]) ∧ Below u.heap.size u w') := fun u => by
    have h := rclock_any (tx f1) u (by rw [tx_z]; exact l1)
    rw [tx_data] at h
    exact h
  clear he hts hS l1 l9
  go_enter Tryd.func8, Tryd.ntmps8
  go_wp2_with fail
  refine (HC.out _).mono ?_
  rintro e w1 ⟨v, rfl, hh⟩
  obtain ⟨hcl, hfr⟩ := bcell hh.out.2
  have hz1 : w.heap.size + 1 < w1.heap.size := by have := hh.out.2.size; simp at this; omega
  have hB1 : Hid (Below w.heap.size w w1) := by
    refine Below.trans ?_ (hh.out.2.mono (by simp; omega))
    exact (by repeat' (first | with_reducible exact Below.refl _ _ | with_reducible refine Below.setCell ?_ (by first | (simp; done) | (simp; omega) | omega) _ | with_reducible refine below_drewN ?_ _ | with_reducible refine Below.drew ?_ | with_reducible refine Below.alloc ?_ (by first | (simp; done) | (simp; omega) | omega) _))
  obtain ⟨g, o, cap, rfl, hg, hc⟩ := hh.out.1.rt.rowD (by omega)
  have r0 : w1.cell? ⟨w.heap.size, 0, none⟩ = some (.int .i64 0) := by rw [hcl _ _ (by simp; omega)]; simp
  have r1 : w1.cell? ⟨w.heap.size, 1, none⟩ = some (.int .u64 0) := by rw [hcl _ _ (by simp; omega)]; simp
  have n0 : w1.cell? ⟨w.heap.size + 1, 0, none⟩ = some (.int .i64 0) := by rw [hcl _ _ (by simp)]; simp
  have n1 : w1.cell? ⟨w.heap.size + 1, 1, none⟩ = some (.int .u64 0) := by rw [hcl _ _ (by simp)]; simp
  have rf : ∀ o, w1.frozen? ⟨w.heap.size, o, none⟩ = false := fun o => by rw [hfr _ _ (by simp; omega)]; simp
  have hz0 : w.heap.size < w1.heap.size := by omega
  have k0 := hc 0 (by omega)
  rw [Nat.add_zero, h0] at k0
  have k1 := hc 1 (by omega)
  rw [h1] at k1
  have k2 := hc 2 (by omega)
  rw [h2] at k2
  obtain ⟨L, hL⟩ : ∃ L, L = ts.length := ⟨_, rfl⟩
  rw [← hL] at hb5 hb1 ⊢
  obtain ⟨X, hX⟩ : ∃ X, X = tx f0 := ⟨_, rfl⟩
  have hs : X.size = 5 := by rw [hX]; exact hn5
  have e1 : ((X.size : Int) != 5) = false := by rw [hs]; rfl
  have e2 : 2 ≤ (X.size : Int) := by omega
  have e4 : (X.size : Int) ≤ 5 := by omega
  obtain ⟨E, hE⟩ : ∃ E, X.extract 2 X.size = E := ⟨_, rfl⟩
  have eX : E.toList = f0.drop 2 := by
    rw [← hE, Lib.toList_data, hX, extract_tx, tx_data, tx_data, List.take_of_length_le (by rw [List.length_drop, tx_z]; omega)]
  rw [← hX] at k0
  have hLi : 5 ≤ (L : Int) := by omega
  have hLj : (L : Int) ≤ 100000 := by omega
  have b1 : (E.toList == [90, 68, 65]) = false := by rw [eX, hrm]; rfl
  have b2 : (E.toList == [82, 77, 67]) = true := by rw [eX, hrm]; rfl
  rw [← hL] at hten
  have hL10 : 10 ≤ (L : Int) := by omega
  clear hX hs eX hL hc hcl hfr hh HC hn5 hrm h0 h1 h2 h9 hb5 hb1 hten
  go_wp2_with fail
  refine (HK.out _).mono ?_
  rintro e w2 ⟨H, N, Se, F, hcp, rfl, hb2⟩
  have hz2 : w.heap.size + 1 < w2.heap.size := by have := hb2.size; omega
  have hz3 : w.heap.size < w2.heap.size := by omega
  have hgz : g < w2.heap.size := by have := hb2.size; omega
  have hgn : g ≠ w2.heap.size := by omega
  have hrn : w.heap.size ≠ w2.heap.size := by omega
  have hnn : w.heap.size + 1 ≠ w2.heap.size := by omega
  have hB2 : Hid (Below w.heap.size w w2) := hB1.out.trans (hb2.mono (by omega))
  have s0 : w2.cell? ⟨w.heap.size, 0, none⟩ = some (.int .i64 0) := (hb2.cell (p := ⟨w.heap.size, 0, none⟩) hz0).trans r0
  have s1 : w2.cell? ⟨w.heap.size, 1, none⟩ = some (.int .u64 0) := (hb2.cell (p := ⟨w.heap.size, 1, none⟩) hz0).trans r1
  have m0 : w2.cell? ⟨w.heap.size + 1, 0, none⟩ = some (.int .i64 0) := (hb2.cell (p := ⟨w.heap.size + 1, 0, none⟩) hz1).trans n0
  have m1 : w2.cell? ⟨w.heap.size + 1, 1, none⟩ = some (.int .u64 0) := (hb2.cell (p := ⟨w.heap.size + 1, 1, none⟩) hz1).trans n1
  have sf : ∀ o, w2.frozen? ⟨w.heap.size, o, none⟩ = false := fun o => (hb2.frozen (p := ⟨w.heap.size, o, none⟩) hz0).trans (rf o)
  have j0 : w2.cell? ⟨g, o, none⟩ = some (.string X) := (hb2.cell (p := ⟨g, o, none⟩) hg).trans k0
  have j2 : w2.cell? ⟨g, o + 2, none⟩ = some (.string (tx f2)) := (hb2.cell (p := ⟨g, o + 2, none⟩) hg).trans k2
  clear hb2 r0 r1 n0 n1 rf hB1 hz0 hz1 hg HK k0 k1 k2
  have bA : ((tx f2).toList == [65]) = false := by rw [Lib.toList_data, tx_data, beq_eq_false_iff_ne]; exact hA
  clear hcp hA
  generalize tx f2 = X2 at *
  generalize tdB f1 = tb at *
  simp only []
  repeat (first | go_values | go_skip | go_guarded | go_step | go_upon)
  exact bodyPost_ret (v := RV) (by rw [hRV]; simp [results, Tryd.results8, go_sem, noD, s0, s1, hz3]) rfl ⟨rfl, (by repeat' (first | with_reducible exact Below.refl _ _ | with_reducible exact hB2.out | with_reducible refine Below.setCell ?_ (by first | (simp; done) | (simp; omega) | omega) _ | with_reducible refine below_drewN ?_ _ | with_reducible refine Below.drew ?_ | with_reducible refine Below.alloc ?_ (by first | (simp; done) | (simp; omega) | omega) _))⟩
set_option maxHeartbeats 4000000 in
theorem rtime_rmc3 (S : ByteArray) (ts : List (List UInt8)) (f0 f1 f2 f9 : List UInt8) (w : World) (hS : S.size ≤ 65536) (he : ckE S.data.toList = 0) (hts : flds S.data.toList = ts) (hb5 : 5 ≤ ts.length) (hb1 : ts.length ≤ 100000)
    (h0 : ts.getD 0 [] = f0) (h1 : ts.getD 1 [] = f1) (h2 : ts.getD 2 [] = f2) (h9 : ts.getD 9 [] = f9) (hn5 : f0.length = 5) (hrm : f0.drop 2 = [82, 77, 67]) (l1 : f1.length ≤ 100000) (l9 : f9.length ≤ 100000)
    (hten : 10 ≤ ts.length) (hA : f2 = [65]) (hnb : nuB f9 6 = false) :
    Calls Tryd.prog 8 #[.string S] w fun e w' => e = .returned (noD 21) ∧ Below w.heap.size w w' := by
  obtain ⟨RV, hRV⟩ : ∃ RV, RV = noD 21 := ⟨_, rfl⟩
  rw [← hRV]
  have HC : Hid (∀ u : World, Calls Tryd.prog 6 #[.string S] u fun e w' => ∃ v, e = .returned (.tuple #[v, .int .i64 0]) ∧ Hid (OwT w' u.heap.size v ts ∧ Below u.heap.size u w')) := fun u => by
    have h := rcheck_ok S u (by omega) he
    rw [hts] at h
    exact h
  have HK : Hid (∀ u : World, Calls Tryd.prog 21 #[.string (tx f1)] u fun e w' => ∃ H N S F : Int, Hid (ClP f1 H N S F) ∧ e = .returned (.tuple #[.agg #[.int .i64 0, .int .i64 0, .int .i64 0, .int .i64 H, .int .i64 N, .int .i64 S, .int .u32 F], .bool (tdB f1)]) ∧ Below u.heap.size u w') := fun u => by
    have h := rclock_any (tx f1) u (by rw [tx_z]; exact l1)
    rw [tx_data] at h
    exact h
  have H9 : Hid (∀ u : World, Calls Tryd.prog 22 #[.string (tx f9), .int .i64 6] u fun e w' => e = .returned (.int .i64 (rnV f9 6)) ∧ w' = u) := fun u => by
    have h := rnumber_any (tx f9) 6 u (by rw [tx_z]; omega) (by decide)
    rw [tx_data] at h
    exact h
  rw [rn_f hnb] at H9
  clear he hts hS l1 l9
  go_enter Tryd.func8, Tryd.ntmps8
  go_wp2_with fail
  refine (HC.out _).mono ?_
  rintro e w1 ⟨v, rfl, hh⟩
  obtain ⟨hcl, hfr⟩ := bcell hh.out.2
  have hz1 : w.heap.size + 1 < w1.heap.size := by have := hh.out.2.size; simp at this; omega
  have hB1 : Hid (Below w.heap.size w w1) := by
    refine Below.trans ?_ (hh.out.2.mono (by simp; omega))
    exact (by repeat' (first | with_reducible exact Below.refl _ _ | with_reducible refine Below.setCell ?_ (by first | (simp; done) | (simp; omega) | omega) _ | with_reducible refine below_drewN ?_ _ | with_reducible refine Below.drew ?_ | with_reducible refine Below.alloc ?_ (by first | (simp; done) | (simp; omega) | omega) _))
  obtain ⟨g, o, cap, rfl, hg, hc⟩ := hh.out.1.rt.rowD (by omega)
  have r0 : w1.cell? ⟨w.heap.size, 0, none⟩ = some (.int .i64 0) := by rw [hcl _ _ (by simp; omega)]; simp
  have r1 : w1.cell? ⟨w.heap.size, 1, none⟩ = some (.int .u64 0) := by rw [hcl _ _ (by simp; omega)]; simp
  have n0 : w1.cell? ⟨w.heap.size + 1, 0, none⟩ = some (.int .i64 0) := by rw [hcl _ _ (by simp)]; simp
  have n1 : w1.cell? ⟨w.heap.size + 1, 1, none⟩ = some (.int .u64 0) := by rw [hcl _ _ (by simp)]; simp
  have rf : ∀ o, w1.frozen? ⟨w.heap.size, o, none⟩ = false := fun o => by rw [hfr _ _ (by simp; omega)]; simp
  have hz0 : w.heap.size < w1.heap.size := by omega
  have k0 := hc 0 (by omega)
  rw [Nat.add_zero, h0] at k0
  have k1 := hc 1 (by omega)
  rw [h1] at k1
  have k2 := hc 2 (by omega)
  rw [h2] at k2
  have k9 := hc 9 (by omega)
  rw [h9] at k9
  obtain ⟨L, hL⟩ : ∃ L, L = ts.length := ⟨_, rfl⟩
  rw [← hL] at hb5 hb1 ⊢
  obtain ⟨X, hX⟩ : ∃ X, X = tx f0 := ⟨_, rfl⟩
  have hs : X.size = 5 := by rw [hX]; exact hn5
  have e1 : ((X.size : Int) != 5) = false := by rw [hs]; rfl
  have e2 : 2 ≤ (X.size : Int) := by omega
  have e4 : (X.size : Int) ≤ 5 := by omega
  obtain ⟨E, hE⟩ : ∃ E, X.extract 2 X.size = E := ⟨_, rfl⟩
  have eX : E.toList = f0.drop 2 := by
    rw [← hE, Lib.toList_data, hX, extract_tx, tx_data, tx_data, List.take_of_length_le (by rw [List.length_drop, tx_z]; omega)]
  rw [← hX] at k0
  have hLi : 5 ≤ (L : Int) := by omega
  have hLj : (L : Int) ≤ 100000 := by omega
  have b1 : (E.toList == [90, 68, 65]) = false := by rw [eX, hrm]; rfl
  have b2 : (E.toList == [82, 77, 67]) = true := by rw [eX, hrm]; rfl
  rw [← hL] at hten
  have hL10 : 10 ≤ (L : Int) := by omega
  clear hX hs eX hL hc hcl hfr hh HC hn5 hrm h0 h1 h2 h9 hb5 hb1 hten hnb
  go_wp2_with fail
  refine (HK.out _).mono ?_
  rintro e w2 ⟨H, N, Se, F, hcp, rfl, hb2⟩
  have hz2 : w.heap.size + 1 < w2.heap.size := by have := hb2.size; omega
  have hz3 : w.heap.size < w2.heap.size := by omega
  have hgz : g < w2.heap.size := by have := hb2.size; omega
  have hgn : g ≠ w2.heap.size := by omega
  have hrn : w.heap.size ≠ w2.heap.size := by omega
  have hnn : w.heap.size + 1 ≠ w2.heap.size := by omega
  have hB2 : Hid (Below w.heap.size w w2) := hB1.out.trans (hb2.mono (by omega))
  have s0 : w2.cell? ⟨w.heap.size, 0, none⟩ = some (.int .i64 0) := (hb2.cell (p := ⟨w.heap.size, 0, none⟩) hz0).trans r0
  have s1 : w2.cell? ⟨w.heap.size, 1, none⟩ = some (.int .u64 0) := (hb2.cell (p := ⟨w.heap.size, 1, none⟩) hz0).trans r1
  have m0 : w2.cell? ⟨w.heap.size + 1, 0, none⟩ = some (.int .i64 0) := (hb2.cell (p := ⟨w.heap.size + 1, 0, none⟩) hz1).trans n0
  have m1 : w2.cell? ⟨w.heap.size + 1, 1, none⟩ = some (.int .u64 0) := (hb2.cell (p := ⟨w.heap.size + 1, 1, none⟩) hz1).trans n1
  have sf : ∀ o, w2.frozen? ⟨w.heap.size, o, none⟩ = false := fun o => (hb2.frozen (p := ⟨w.heap.size, o, none⟩) hz0).trans (rf o)
  have j0 : w2.cell? ⟨g, o, none⟩ = some (.string X) := (hb2.cell (p := ⟨g, o, none⟩) hg).trans k0
  have j2 : w2.cell? ⟨g, o + 2, none⟩ = some (.string (tx f2)) := (hb2.cell (p := ⟨g, o + 2, none⟩) hg).trans k2
  have j9 : w2.cell? ⟨g, o + 9, none⟩ = some (.string (tx f9)) := (hb2.cell (p := ⟨g, o + 9, none⟩) hg).trans k9
  clear hb2 r0 r1 n0 n1 rf hB1 hz0 hz1 hg HK k0 k1 k2 k9
  have bA : ((tx f2).toList == [65]) = true := by rw [Lib.toList_data, tx_data, hA]; rfl
  clear hcp hA
  generalize tx f2 = X2 at *
  generalize tx f9 = X9 at *
  generalize tdB f1 = tb at *
  go_wp2_with fail
  refine (H9.out _).mono ?_
  rintro e w4 ⟨rfl, hw⟩
  rw [hw]
  clear hw H9
  simp only []
  repeat (first | go_values | go_skip | go_guarded | go_step | go_upon)
  exact bodyPost_ret (v := RV) (by rw [hRV]; simp [results, Tryd.results8, go_sem, noD, s0, s1, hz3]) rfl ⟨rfl, (by repeat' (first | with_reducible exact Below.refl _ _ | with_reducible exact hB2.out | with_reducible refine Below.setCell ?_ (by first | (simp; done) | (simp; omega) | omega) _ | with_reducible refine below_drewN ?_ _ | with_reducible refine Below.drew ?_ | with_reducible refine Below.alloc ?_ (by first | (simp; done) | (simp; omega) | omega) _))⟩
end Go.Proofs.YthoilihokbakoaaDoor
