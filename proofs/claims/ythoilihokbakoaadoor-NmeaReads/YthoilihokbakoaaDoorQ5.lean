/- The law NmeaReads, walked. -/
import Derived.Test.YthoilihokbakoaaDoorQ4
namespace Go.Proofs.YthoilihokbakoaaDoor
open Go Go.RowKit
set_option maxHeartbeats 2000000 in
theorem NmeaReads_core (S : ByteArray) (M : Int) (w : World) (hM : w.cell? ⟨0, 0, none⟩ = some (.int .i64 M)) (hsz : S.size < 9223372036854775808) :
    Calls Tryd.prog 3 #[.string S] w fun e w' => e = .returned (.bool true) ∧ Below w.heap.size w w' := by
  have hszi : (S.size : Int) < 9223372036854775808 := by omega
  by_cases hS : S.size ≤ 65536
  · have hSi : (S.size : Int) ≤ 65536 := by omega
    have hlt : 0 < w.heap.size := World.block_lt_of_cell? _ _ hM
    obtain ⟨ts, c, hts, C1, C2⟩ := checks S M hS
    obtain ⟨dE', dT', dC', hV⟩ := tmV_shape S.data.toList
    have H1 : Hid (∀ u : World, Below w.heap.size w u → Calls Tryd.prog 5 #[.string S] u fun e w' => ∃ v, e = .returned (.tuple #[v, .int .i64 c]) ∧ Hid (Rt w' v ts ∧ Below u.heap.size u w')) := fun u hu => C1 u ((hu.cell (p := ⟨0, 0, none⟩) hlt).trans hM)
    have H2 : Hid (∀ u : World, Calls Tryd.prog 6 #[.string S] u fun e w' => ∃ v, e = .returned (.tuple #[v, .int .i64 c]) ∧ Hid (Rt w' v ts ∧ Below u.heap.size u w')) := C2
    have H3 : Hid (∀ u : World, Below w.heap.size w u → Calls Tryd.prog 7 #[.string S] u fun e w' => e = .returned (.tuple #[.agg #[.int .i64 dE', .int .u64 dT'], .int .i64 dC']) ∧ Below u.heap.size u w') := fun u hu => by
      have h := time_all S M u hS ((hu.cell (p := ⟨0, 0, none⟩) hlt).trans hM)
      rw [hV] at h
      exact h
    have H4 : Hid (∀ u : World, Calls Tryd.prog 8 #[.string S] u fun e w' => e = .returned (.tuple #[.agg #[.int .i64 dE', .int .u64 dT'], .int .i64 dC']) ∧ Below u.heap.size u w') := fun u => by
      have h := rtime_all S u hS
      rw [hV] at h
      exact h
    have H5 : Hid (∀ u : World, Calls Tryd.prog 9 #[.string S] u fun e w' => e = .returned (.int .i64 (xs S.data.toList : Int)) ∧ w' = u) := fun u => sum_any S u (by omega)
    have H6 : Hid (∀ u : World, Calls Tryd.prog 10 #[.string S] u fun e w' => e = .returned (.int .i64 (xs S.data.toList : Int)) ∧ w' = u) := fun u => rsum_any S u (by omega)
    obtain ⟨Z, hZ⟩ : ∃ Z : Int, Z = (xs S.data.toList : Int) := ⟨_, rfl⟩
    rw [← hZ] at H5 H6
    have HTS : Hid (ts.length ≤ 100000) := hts
    clear hM hlt C1 C2 hV hZ hS hsz hszi hts
    go_enter Tryd.func3, Tryd.ntmps3
    go_wp2_with fail
    refine (H1.out _ (by repeat' (first | with_reducible exact Below.refl _ _ | with_reducible refine Below.setCell ?_ (by first | (simp; done) | (simp; omega) | omega) _ | with_reducible refine below_drewN ?_ _ | with_reducible refine Below.drew ?_ | with_reducible refine Below.alloc ?_ (by first | (simp; done) | (simp; omega) | omega) _))).mono ?_
    rintro e w1 ⟨a, rfl, ha⟩
    go_wp2_with fail
    refine (H2.out _).mono ?_
    rintro e w2 ⟨b, rfl, hb⟩
    have HB2 : Hid (Below w.heap.size w w2) := ha.out.2.trans (hb.out.2.mono ha.out.2.size)
    have HA2 : Hid (Rt w2 a ts) := ha.out.1.below hb.out.2 (Nat.le_refl _)
    have HBB : Hid (Rt w2 b ts) := hb.out.1
    clear ha hb
    go_wp2_with fail
    refine (H3.out _ (by repeat' (first | with_reducible exact Below.refl _ _ | with_reducible exact HB2.out | with_reducible refine Below.setCell ?_ (by first | (simp; done) | (simp; omega) | omega) _ | with_reducible refine below_drewN ?_ _ | with_reducible refine Below.drew ?_ | with_reducible refine Below.alloc ?_ (by first | (simp; done) | (simp; omega) | omega) _))).mono ?_
    rintro e w3 ⟨rfl, h3⟩
    go_wp2_with fail
    refine (H4.out _).mono ?_
    rintro e w4 ⟨rfl, h4⟩
    obtain ⟨hcl, -⟩ := bcell h4
    have p0 : w4.cell? ⟨w3.heap.size, 0, none⟩ = some (.int .i64 dE') := by rw [hcl _ _ (by simp)]; simp
    have p1 : w4.cell? ⟨w3.heap.size, 1, none⟩ = some (.int .u64 dT') := by rw [hcl _ _ (by simp)]; simp
    have h4s := h4.size
    simp at h4s
    have h3s := h3.size
    have hz : w3.heap.size < w4.heap.size := by omega
    have HW : Hid (Below w2.heap.size w2 w4) := (h3.alloc h3s _).trans (h4.mono (by simp; omega))
    have HW4 : Hid (Below w.heap.size w w4) := HB2.out.trans (HW.out.mono HB2.out.size)
    have HS : Hid (∀ u : World, Below w2.heap.size w2 u → Calls Tryd.prog 11 #[a, b] u fun e w' => e = .returned (.bool true) ∧ ∃ n, w' = u.drewN n) := fun u hu => sameTexts7_any a b ts u (HA2.out.below hu (Nat.le_refl _)) (HBB.out.below hu (Nat.le_refl _)) (by have := HTS.out; omega)
    have hz24 : w2.heap.size ≤ w4.heap.size := HW.out.size
    have hz04 : w.heap.size ≤ w4.heap.size := HW4.out.size
    clear hcl h4 h3 h4s h3s HA2 HBB HTS H1 H2 H3 H4 HB2
    go_wp2_with fail
    refine (H5.out _).mono ?_
    rintro e w5 ⟨rfl, hw⟩
    rw [hw]
    clear hw
    go_wp2_with fail
    refine (H6.out _).mono ?_
    rintro e w5 ⟨rfl, hw⟩
    rw [hw]
    clear hw
    go_wp2_with fail
    refine (HS.out _ (by repeat' (first | with_reducible exact Below.refl _ _ | with_reducible exact HW.out | with_reducible refine Below.setCell ?_ (by first | (simp; done) | (simp; omega) | omega) _ | with_reducible refine below_drewN ?_ _ | with_reducible refine Below.drew ?_ | with_reducible refine Below.alloc ?_ (by first | (simp; done) | (simp; omega) | omega) _))).mono ?_
    rintro e w5 ⟨rfl, k, hw⟩
    rw [hw]
    clear hw
    go_wp2_with fail
    go_ret
    exact ⟨rfl, (by repeat' (first | with_reducible exact Below.refl _ _ | with_reducible exact HW4.out | with_reducible refine Below.setCell ?_ (by first | (simp; done) | (simp; omega) | omega) _ | with_reducible refine below_drewN ?_ _ | with_reducible refine Below.drew ?_ | with_reducible refine Below.alloc ?_ (by first | (simp; done) | (simp; omega) | omega) _))⟩
  · have hSi : 65536 < (S.size : Int) := by omega
    clear hM hS
    go_enter Tryd.func3, Tryd.ntmps3
    go_wp2
    go_ret
    exact ⟨rfl, Below.refl _ _⟩
theorem NmeaReads_row (S : ByteArray) (w : World) (M : Int) (hs : S.size ≤ maxLen) (hM : w.cell? ⟨0, 0, none⟩ = some (.int .i64 M)) :
    Calls Tryd.prog 3 #[.string S] w fun e w' => e = .returned (.bool true) ∧ Below w.heap.size w w' :=
  NmeaReads_core S M w hM (by unfold maxLen at hs; omega)
end Go.Proofs.YthoilihokbakoaaDoor
