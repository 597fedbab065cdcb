/- The date of a sentence ZDA, in package nmea. -/
import Derived.Test.YthoilihokbakoaaDoorQJ
import Derived.Test.YthoilihokbakoaaDoorStD
namespace Go.Proofs.YthoilihokbakoaaDoor
open Go Go.RowKit
theorem Rt.row {w : World} {v : Value} {ts : List (List UInt8)} (h : Rt w v ts) (h0 : 0 < ts.length) :
    ∃ g o cap, v = .slice (some ⟨g, o, none⟩) ts.length cap ∧ ts.length ≤ cap ∧ g < w.heap.size ∧ ∀ k (hk : k < ts.length), w.cell? ⟨g, o + k, none⟩ = some (.string (tx ts[k])) := by
  obtain ⟨ao, cap, h1, h2, h3⟩ := h
  obtain ⟨g, o, g1, g2, -⟩ := h3 0 h0
  refine ⟨g, o, cap, by rw [h1, g1], h2, g2, fun k hk => ?_⟩
  obtain ⟨g', o', a1, -, a3⟩ := h3 k hk
  rw [g1] at a1
  cases a1
  exact a3
theorem td_bd (l : List UInt8) : 0 ≤ tdN l ∧ tdN l < 10000000000 ∧ 0 ≤ tdF l ∧ tdF l < 4294967296 := by
  obtain ⟨a, b⟩ := nu_bd (tdW l) 6 (by decide)
  obtain ⟨c, d⟩ := fr_bd (tdQ l)
  refine ⟨a, b, ?_⟩
  unfold tdF
  split
  · exact ⟨c, d⟩
  · decide
def cvV (h d m y : List UInt8) : Value := .tuple #[.agg #[.int .i64 (nuV y 4), .int .i64 (nuV m 2), .int .i64 (nuV d 2), .int .i64 (tdN h / 10000), .int .i64 (tdN h / 100 % 100), .int .i64 (tdN h % 100), .int .u32 (tdF h)], .bool (tdB h && nuB d 2 && nuB m 2 && nuB y 4)]
theorem number_tx (l : List UInt8) (K : Int) (w : World) (hs : l.length ≤ 1000000) (hK : K ≤ 10) : Calls Tryd.prog 47 #[.string (tx l), .int .i64 K] w fun e w' => e = .returned (.tuple #[.int .i64 (nuV l K), .bool (nuB l K)]) ∧ w' = w := by
  have h := number_any (tx l) K w (by rw [tx_z]; exact hs) hK
  rw [tx_data] at h
  exact h
set_option maxHeartbeats 1000000 in
theorem civilOfZDA_any (v : Value) (f0 f1 f2 f3 f4 : List UInt8) (fs : List (List UInt8)) (M : Int) (w : World) (hv : Rt w v (f0 :: f1 :: f2 :: f3 :: f4 :: fs)) (hl : fs.length ≤ 1000000)
    (h1 : f1.length ≤ 1000000) (h2 : f2.length ≤ 1000000) (h3 : f3.length ≤ 1000000) (h4 : f4.length ≤ 1000000) (hM : w.cell? ⟨0, 0, none⟩ = some (.int .i64 M)) :
    Calls Tryd.prog 34 #[v] w fun e w' => e = .returned (cvV f1 f2 f3 f4) ∧ Below w.heap.size w w' := by
  obtain ⟨g, o, cap, rfl, hcap, hg, hc⟩ := hv.row (by simp)
  have k1 : w.cell? ⟨g, o + 1, none⟩ = some (.string (tx f1)) := hc 1 (by simp)
  have k2 : w.cell? ⟨g, o + 2, none⟩ = some (.string (tx f2)) := hc 2 (by simp)
  have k3 : w.cell? ⟨g, o + 3, none⟩ = some (.string (tx f3)) := hc 3 (by simp)
  have k4 : w.cell? ⟨g, o + 4, none⟩ = some (.string (tx f4)) := hc 4 (by simp)
  obtain ⟨L, hL⟩ : ∃ L, L = (f0 :: f1 :: f2 :: f3 :: f4 :: fs).length := ⟨_, rfl⟩
  have hL5 : 5 ≤ L := by rw [hL]; simp
  have hL6 : L ≤ 1000005 := by rw [hL]; simp; omega
  rw [← hL]
  clear hc hcap hv hL hl
  have hlt : 0 < w.heap.size := World.block_lt_of_cell? _ _ hM
  have HT : Hid (∀ u : World, Below w.heap.size w u → Calls Tryd.prog 46 #[.string (tx f1)] u fun e w' => e = .returned (.tuple #[.agg #[.int .i64 0, .int .i64 0, .int .i64 0, .int .i64 (tdN f1 / 10000), .int .i64 (tdN f1 / 100 % 100), .int .i64 (tdN f1 % 100), .int .u32 (tdF f1)], .bool (tdB f1)]) ∧ Below u.heap.size u w') := by
    intro u hu
    have h := timeOfDay_any (tx f1) M u (by rw [tx_z]; exact h1) ((hu.cell (p := ⟨0, 0, none⟩) hlt).trans hM)
    rw [tx_data] at h
    exact h
  have H2 : Hid (∀ u : World, Calls Tryd.prog 47 #[.string (tx f2), .int .i64 2] u fun e w' => e = .returned (.tuple #[.int .i64 (nuV f2 2), .bool (nuB f2 2)]) ∧ w' = u) := fun u => number_tx f2 2 u h2 (by decide)
  have H3 : Hid (∀ u : World, Calls Tryd.prog 47 #[.string (tx f3), .int .i64 2] u fun e w' => e = .returned (.tuple #[.int .i64 (nuV f3 2), .bool (nuB f3 2)]) ∧ w' = u) := fun u => number_tx f3 2 u h3 (by decide)
  have H4 : Hid (∀ u : World, Calls Tryd.prog 47 #[.string (tx f4), .int .i64 4] u fun e w' => e = .returned (.tuple #[.int .i64 (nuV f4 4), .bool (nuB f4 4)]) ∧ w' = u) := fun u => number_tx f4 4 u h4 (by decide)
  have HV : Hid (cvV f1 f2 f3 f4 = .tuple #[.agg #[.int .i64 (nuV f4 4), .int .i64 (nuV f3 2), .int .i64 (nuV f2 2), .int .i64 (tdN f1 / 10000), .int .i64 (tdN f1 / 100 % 100), .int .i64 (tdN f1 % 100), .int .u32 (tdF f1)], .bool (tdB f1 && nuB f2 2 && nuB f3 2 && nuB f4 4)]) := rfl
  generalize cvV f1 f2 f3 f4 = RV at HV ⊢
  generalize tdN f1 / 10000 = th at *
  generalize tdN f1 / 100 % 100 = tm at *
  generalize tdN f1 % 100 = te at *
  generalize tdF f1 = tf at *
  generalize tdB f1 = tb at *
  generalize nuV f2 2 = n2 at *
  generalize nuV f3 2 = n3 at *
  generalize nuV f4 4 = n4 at *
  generalize nuB f2 2 = b2 at *
  generalize nuB f3 2 = b3 at *
  generalize nuB f4 4 = b4 at *
  generalize tx f1 = X1 at *
  generalize tx f2 = X2 at *
  generalize tx f3 = X3 at *
  generalize tx f4 = X4 at *
  clear h1 h2 h3 h4 hM hlt
  go_enter Tryd.func34, Tryd.ntmps34
  go_wp2_with fail
  refine (HT.out _ (by repeat' (first | with_reducible exact Below.refl _ _ | with_reducible refine Below.setCell ?_ (by first | (simp; done) | (simp; omega) | omega) _ | with_reducible refine below_drewN ?_ _ | with_reducible refine Below.drew ?_ | with_reducible refine Below.alloc ?_ (by first | (simp; done) | (simp; omega) | omega) _))).mono ?_
  rintro e w1 ⟨rfl, hb⟩
  obtain ⟨hcl, hfr⟩ := bcell hb
  have hz : w.heap.size < w1.heap.size := by have := hb.size; simp at this; omega
  have hB : Hid (Below w.heap.size w w1) := by
    refine Below.trans ?_ (hb.mono (by simp))
    exact (by repeat' (first | with_reducible exact Below.refl _ _ | with_reducible refine Below.setCell ?_ (by first | (simp; done) | (simp; omega) | omega) _ | with_reducible refine below_drewN ?_ _ | with_reducible refine Below.drew ?_ | with_reducible refine Below.alloc ?_ (by first | (simp; done) | (simp; omega) | omega) _))
  have r0 : w1.cell? ⟨w.heap.size, 0, none⟩ = some (.int .i64 0) := by rw [hcl _ _ (by simp)]; simp
  have r1 : w1.cell? ⟨w.heap.size, 1, none⟩ = some (.int .i64 0) := by rw [hcl _ _ (by simp)]; simp
  have r2 : w1.cell? ⟨w.heap.size, 2, none⟩ = some (.int .i64 0) := by rw [hcl _ _ (by simp)]; simp
  have r3 : w1.cell? ⟨w.heap.size, 3, none⟩ = some (.int .i64 0) := by rw [hcl _ _ (by simp)]; simp
  have r4 : w1.cell? ⟨w.heap.size, 4, none⟩ = some (.int .i64 0) := by rw [hcl _ _ (by simp)]; simp
  have r5 : w1.cell? ⟨w.heap.size, 5, none⟩ = some (.int .i64 0) := by rw [hcl _ _ (by simp)]; simp
  have r6 : w1.cell? ⟨w.heap.size, 6, none⟩ = some (.int .u32 0) := by rw [hcl _ _ (by simp)]; simp
  have rf : ∀ o, w1.frozen? ⟨w.heap.size, o, none⟩ = false := fun o => by rw [hfr _ _ (by simp)]; simp
  have q2 : w1.cell? ⟨g, o + 2, none⟩ = some (.string X2) := (hB.out.cell (p := ⟨g, o + 2, none⟩) hg).trans k2
  have q3 : w1.cell? ⟨g, o + 3, none⟩ = some (.string X3) := (hB.out.cell (p := ⟨g, o + 3, none⟩) hg).trans k3
  have q4 : w1.cell? ⟨g, o + 4, none⟩ = some (.string X4) := (hB.out.cell (p := ⟨g, o + 4, none⟩) hg).trans k4
  have hgz : g < w1.heap.size := by omega
  have hgn : g ≠ w1.heap.size := by omega
  have hgr : g ≠ w.heap.size := by omega
  have hrn : w.heap.size ≠ w1.heap.size := by omega
  clear hcl hfr hb k1 k2 k3 k4
  go_wp2_with fail
  refine (H2.out _).mono ?_
  rintro e w2 ⟨rfl, hw⟩
  rw [hw]
  clear hw
  go_wp2_with fail
  refine (H3.out _).mono ?_
  rintro e w2 ⟨rfl, hw⟩
  rw [hw]
  clear hw
  go_wp2_with fail
  refine (H4.out _).mono ?_
  rintro e w2 ⟨rfl, hw⟩
  rw [hw]
  clear hw
  simp only []
  cases tb
  · repeat (first | go_values | go_skip | go_guarded | go_step | go_upon)
    exact bodyPost_ret (v := RV) (by rw [HV.out]; simp [results, Tryd.results34, go_sem, r0, r1, r2, r3, r4, r5, r6, hz]) rfl ⟨rfl, (by repeat' (first | with_reducible exact Below.refl _ _ | with_reducible exact hB.out | with_reducible refine Below.setCell ?_ (by first | (simp; done) | (simp; omega) | omega) _ | with_reducible refine below_drewN ?_ _ | with_reducible refine Below.drew ?_ | with_reducible refine Below.alloc ?_ (by first | (simp; done) | (simp; omega) | omega) _))⟩
  · cases b2
    · repeat (first | go_values | go_skip | go_guarded | go_step | go_upon)
      exact bodyPost_ret (v := RV) (by rw [HV.out]; simp [results, Tryd.results34, go_sem, r0, r1, r2, r3, r4, r5, r6, hz]) rfl ⟨rfl, (by repeat' (first | with_reducible exact Below.refl _ _ | with_reducible exact hB.out | with_reducible refine Below.setCell ?_ (by first | (simp; done) | (simp; omega) | omega) _ | with_reducible refine below_drewN ?_ _ | with_reducible refine Below.drew ?_ | with_reducible refine Below.alloc ?_ (by first | (simp; done) | (simp; omega) | omega) _))⟩
    · cases b3
      · repeat (first | go_values | go_skip | go_guarded | go_step | go_upon)
        exact bodyPost_ret (v := RV) (by rw [HV.out]; simp [results, Tryd.results34, go_sem, r0, r1, r2, r3, r4, r5, r6, hz]) rfl ⟨rfl, (by repeat' (first | with_reducible exact Below.refl _ _ | with_reducible exact hB.out | with_reducible refine Below.setCell ?_ (by first | (simp; done) | (simp; omega) | omega) _ | with_reducible refine below_drewN ?_ _ | with_reducible refine Below.drew ?_ | with_reducible refine Below.alloc ?_ (by first | (simp; done) | (simp; omega) | omega) _))⟩
      · repeat (first | go_values | go_skip | go_guarded | go_step | go_upon)
        exact bodyPost_ret (v := RV) (by rw [HV.out]; simp [results, Tryd.results34, go_sem, r0, r1, r2, r3, r4, r5, r6, hz]) rfl ⟨rfl, (by repeat' (first | with_reducible exact Below.refl _ _ | with_reducible exact hB.out | with_reducible refine Below.setCell ?_ (by first | (simp; done) | (simp; omega) | omega) _ | with_reducible refine below_drewN ?_ _ | with_reducible refine Below.drew ?_ | with_reducible refine Below.alloc ?_ (by first | (simp; done) | (simp; omega) | omega) _))⟩
end Go.Proofs.YthoilihokbakoaaDoor
