/- The reference's Time, walked. -/
import Derived.Test.YthoilihokbakoaaDoorQX
import Derived.Test.YthoilihokbakoaaDoorStSc
namespace Go.Proofs.YthoilihokbakoaaDoor
open Go Go.RowKit
set_option maxHeartbeats 2000000 in
theorem rtime_err (S : ByteArray) (w : World) (hS : S.size ≤ 65536) (he : ckE S.data.toList ≠ 0) :
    Calls Tryd.prog 8 #[.string S] w fun e w' => e = .returned (noD (ckE S.data.toList)) ∧ Below w.heap.size w w' := by
  have HC : Hid (∀ u : World, Calls Tryd.prog 6 #[.string S] u fun e w' => e = .returned (.tuple #[.slice none 0 0, .int .i64 (ckE S.data.toList)]) ∧ ∃ k, w' = u.drewN k) := fun u => rcheck_err S u (by omega) he
  generalize ckE S.data.toList = c at *
  clear hS
  have hc2 : (c != 0) = true := bne_iff_ne.2 he
  clear he
  go_enter Tryd.func8, Tryd.ntmps8
  go_wp2_with fail
  refine (HC.out _).mono ?_
  rintro e w1 ⟨rfl, k, hw⟩
  rw [hw]
  clear hw
  simp only []
  repeat (first | go_values | go_skip | go_guarded | go_step | go_upon)
  exact bodyPost_ret (v := noD c) (by simp [results, Tryd.results8, go_sem, noD]) rfl ⟨rfl, (by repeat' (first | with_reducible exact Below.refl _ _ | with_reducible refine Below.setCell ?_ (by first | (simp; done) | (simp; omega) | omega) _ | with_reducible refine below_drewN ?_ _ | with_reducible refine Below.drew ?_ | with_reducible refine Below.alloc ?_ (by first | (simp; done) | (simp; omega) | omega) _))⟩
set_option maxHeartbeats 2000000 in
/-- the first field is not of five bytes, or there are fewer than five fields -/
theorem rtime_few (S : ByteArray) (ts : List (List UInt8)) (w : World) (hS : S.size ≤ 65536) (he : ckE S.data.toList = 0) (hts : flds S.data.toList = ts) (hb0 : 0 < ts.length) (hb1 : ts.length ≤ 100000) (hl0 : (ts.getD 0 []).length ≤ 100000) (hno : (ts.getD 0 []).length ≠ 5 ∨ ts.length < 5) :
    Calls Tryd.prog 8 #[.string S] w fun e w' => e = .returned (noD 21) ∧ Below w.heap.size w w' := by
  have HC : Hid (∀ u : World, Calls Tryd.prog 6 #[.string S] u fun e w' => ∃ v, e = .returned (.tuple #[v, .int .i64 0]) ∧ Hid (OwT w' u.heap.size v ts ∧ Below u.heap.size u w')) := fun u => by
    have h := rcheck_ok S u (by omega) he
    rw [hts] at h
    exact h
  clear he hts hS
  go_enter Tryd.func8, Tryd.ntmps8
  go_wp2_with fail
  refine (HC.out _).mono ?_
  rintro e w1 ⟨v, rfl, hh⟩
  obtain ⟨hcl, hfr⟩ := bcell hh.out.2
  have hz1 : w.heap.size + 1 < w1.heap.size := by have := hh.out.2.size; simp at this; omega
  have hB1 : Hid (Below w.heap.size w w1) := by
    refine Below.trans ?_ (hh.out.2.mono (by simp; omega))
    exact (by repeat' (first | with_reducible exact Below.refl _ _ | with_reducible refine Below.setCell ?_ (by first | (simp; done) | (simp; omega) | omega) _ | with_reducible refine below_drewN ?_ _ | with_reducible refine Below.drew ?_ | with_reducible refine Below.alloc ?_ (by first | (simp; done) | (simp; omega) | omega) _))
  obtain ⟨g, o, cap, rfl, hg, hc⟩ := hh.out.1.rt.rowD (by omega)
  have r0 : w1.cell? ⟨w.heap.size, 0, none⟩ = some (.int .i64 0) := by rw [hcl _ _ (by simp; omega)]; simp
  have r1 : w1.cell? ⟨w.heap.size, 1, none⟩ = some (.int .u64 0) := by rw [hcl _ _ (by simp; omega)]; simp
  have n0 : w1.cell? ⟨w.heap.size + 1, 0, none⟩ = some (.int .i64 0) := by rw [hcl _ _ (by simp)]; simp
  have n1 : w1.cell? ⟨w.heap.size + 1, 1, none⟩ = some (.int .u64 0) := by rw [hcl _ _ (by simp)]; simp
  have rf : ∀ o, w1.frozen? ⟨w.heap.size, o, none⟩ = false := fun o => by rw [hfr _ _ (by simp; omega)]; simp
  have hz0 : w.heap.size < w1.heap.size := by omega
  have k0 := hc 0 (by omega)
  rw [Nat.add_zero] at k0
  obtain ⟨L, hL⟩ : ∃ L, L = ts.length := ⟨_, rfl⟩
  rw [← hL] at hb0 hb1 hno ⊢
  obtain ⟨X, hX⟩ : ∃ X, X = tx (ts.getD 0 []) := ⟨_, rfl⟩
  have hs : X.size = (ts.getD 0 []).length := by rw [hX]; rfl
  rw [← hX] at k0
  rw [← hs] at hno hl0
  have hLi : (L : Int) ≤ 100000 := by omega
  have hL0 : 0 < (L : Int) := by omega
  have hXi : (X.size : Int) ≤ 100000 := by omega
  clear hX hs hL hc hcl hfr hh HC hb0 hb1
  by_cases h5 : X.size = 5
  · have e1 : ((X.size : Int) != 5) = false := by rw [h5]; rfl
    have hL5 : (L : Int) < 5 := by omega
    clear hno h5
    simp only []
    repeat (first | go_values | go_skip | go_guarded | go_step | go_upon)
    exact bodyPost_ret (v := noD 21) (by simp [results, Tryd.results8, go_sem, noD, r0, r1]) rfl ⟨rfl, (by repeat' (first | with_reducible exact Below.refl _ _ | with_reducible exact hB1.out | with_reducible refine Below.setCell ?_ (by first | (simp; done) | (simp; omega) | omega) _ | with_reducible refine below_drewN ?_ _ | with_reducible refine Below.drew ?_ | with_reducible refine Below.alloc ?_ (by first | (simp; done) | (simp; omega) | omega) _))⟩
  · have e1 : ((X.size : Int) != 5) = true := by rw [bne_iff_ne]; omega
    clear hno h5
    simp only []
    repeat (first | go_values | go_skip | go_guarded | go_step | go_upon)
    exact bodyPost_ret (v := noD 21) (by simp [results, Tryd.results8, go_sem, noD, r0, r1]) rfl ⟨rfl, (by repeat' (first | with_reducible exact Below.refl _ _ | with_reducible exact hB1.out | with_reducible refine Below.setCell ?_ (by first | (simp; done) | (simp; omega) | omega) _ | with_reducible refine below_drewN ?_ _ | with_reducible refine Below.drew ?_ | with_reducible refine Below.alloc ?_ (by first | (simp; done) | (simp; omega) | omega) _))⟩
end Go.Proofs.YthoilihokbakoaaDoor
