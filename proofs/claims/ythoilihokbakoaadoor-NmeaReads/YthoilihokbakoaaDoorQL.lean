/- The time of a sentence ZDA, in package nmea. -/
import Derived.Test.YthoilihokbakoaaDoorQK
namespace Go.Proofs.YthoilihokbakoaaDoor
open Go Go.RowKit
set_option maxHeartbeats 1000000 in
theorem civil_zda (v : Value) (f0 f1 f2 f3 f4 : List UInt8) (fs : List (List UInt8)) (M : Int) (w : World) (hv : Rt w v (f0 :: f1 :: f2 :: f3 :: f4 :: fs)) (hl : fs.length ≤ 1000000)
    (h0 : f0.length = 5) (hz : f0.drop 2 = [90, 68, 65])
    (h1 : f1.length ≤ 1000000) (h2 : f2.length ≤ 1000000) (h3 : f3.length ≤ 1000000) (h4 : f4.length ≤ 1000000) (hM : w.cell? ⟨0, 0, none⟩ = some (.int .i64 M)) :
    Calls Tryd.prog 19 #[v] w fun e w' => e = .returned (cvV f1 f2 f3 f4) ∧ Below w.heap.size w w' := by
  have hlt : 0 < w.heap.size := World.block_lt_of_cell? _ _ hM
  have HZ : Hid (∀ u : World, Below w.heap.size w u → Calls Tryd.prog 34 #[v] u fun e w' => e = .returned (cvV f1 f2 f3 f4) ∧ Below u.heap.size u w') := by
    intro u hu
    exact civilOfZDA_any v f0 f1 f2 f3 f4 fs M u (hv.below hu (Nat.le_refl _)) hl h1 h2 h3 h4 ((hu.cell (p := ⟨0, 0, none⟩) hlt).trans hM)
  obtain ⟨g, o, cap, rfl, hcap, hg, hc⟩ := hv.row (by simp)
  have k0 : w.cell? ⟨g, o, none⟩ = some (.string (tx f0)) := hc 0 (by simp)
  obtain ⟨L, hL⟩ : ∃ L, L = (f0 :: f1 :: f2 :: f3 :: f4 :: fs).length := ⟨_, rfl⟩
  have hL5 : 5 ≤ L := by rw [hL]; simp
  rw [← hL] at HZ ⊢
  clear hc hcap hv hL hl
  obtain ⟨X, hX⟩ : ∃ X, X = tx f0 := ⟨_, rfl⟩
  have hs : X.size = 5 := by rw [hX]; exact h0
  have e1 : ((X.size : Int) != 5) = false := by rw [hs]; rfl
  have e2 : 2 ≤ (X.size : Int) := by omega
  have e3 : X.extract 2 X.size = ⟨#[90, 68, 65]⟩ := by
    rw [hX, extract_tx, tx_data, hz, tx_z, h0]; rfl
  have e4 : (X.size : Int) ≤ 5 := by omega
  rw [← hX] at k0
  clear hX h0 hz hs hM hlt h1 h2 h3 h4
  unfold cvV at HZ ⊢
  generalize (tdB f1 && nuB f2 2 && nuB f3 2 && nuB f4 4) = ok at HZ ⊢
  generalize tdN f1 / 10000 = th at *
  generalize tdN f1 / 100 % 100 = tm at *
  generalize tdN f1 % 100 = te at *
  generalize tdF f1 = tf at *
  generalize nuV f2 2 = n2 at *
  generalize nuV f3 2 = n3 at *
  generalize nuV f4 4 = n4 at *
  go_enter Tryd.func19, Tryd.ntmps19
  go_wp2_with fail
  refine (HZ.out _ (by repeat' (first | with_reducible exact Below.refl _ _ | with_reducible refine Below.setCell ?_ (by first | (simp; done) | (simp; omega) | omega) _ | with_reducible refine below_drewN ?_ _ | with_reducible refine Below.drew ?_ | with_reducible refine Below.alloc ?_ (by first | (simp; done) | (simp; omega) | omega) _))).mono ?_
  rintro e w1 ⟨rfl, hb⟩
  obtain ⟨hcl, hfr⟩ := bcell hb
  have hz : w.heap.size < w1.heap.size := by have := hb.size; simp at this; omega
  have hB : Hid (Below w.heap.size w w1) := by
    refine Below.trans ?_ (hb.mono (by simp))
    exact (by repeat' (first | with_reducible exact Below.refl _ _ | with_reducible refine Below.setCell ?_ (by first | (simp; done) | (simp; omega) | omega) _ | with_reducible refine below_drewN ?_ _ | with_reducible refine Below.drew ?_ | with_reducible refine Below.alloc ?_ (by first | (simp; done) | (simp; omega) | omega) _))
  have r0 : w1.cell? ⟨w.heap.size, 0, none⟩ = some (.int .i64 0) := by rw [hcl _ _ (by simp)]; simp
  have r1 : w1.cell? ⟨w.heap.size, 1, none⟩ = some (.int .i64 0) := by rw [hcl _ _ (by simp)]; simp
  have r2 : w1.cell? ⟨w.heap.size, 2, none⟩ = some (.int .i64 0) := by rw [hcl _ _ (by simp)]; simp
  have r3 : w1.cell? ⟨w.heap.size, 3, none⟩ = some (.int .i64 0) := by rw [hcl _ _ (by simp)]; simp
  have r4 : w1.cell? ⟨w.heap.size, 4, none⟩ = some (.int .i64 0) := by rw [hcl _ _ (by simp)]; simp
  have r5 : w1.cell? ⟨w.heap.size, 5, none⟩ = some (.int .i64 0) := by rw [hcl _ _ (by simp)]; simp
  have r6 : w1.cell? ⟨w.heap.size, 6, none⟩ = some (.int .u32 0) := by rw [hcl _ _ (by simp)]; simp
  have rf : ∀ o, w1.frozen? ⟨w.heap.size, o, none⟩ = false := fun o => by rw [hfr _ _ (by simp)]; simp
  clear hcl hfr hb
  simp only []
  repeat (first | go_values | go_skip | go_guarded | go_step | go_upon)
  exact bodyPost_ret (v := .tuple #[.agg #[.int .i64 n4, .int .i64 n3, .int .i64 n2, .int .i64 th, .int .i64 tm, .int .i64 te, .int .u32 tf], .bool ok]) (by simp [results, Tryd.results19, go_sem, r0, r1, r2, r3, r4, r5, r6]) rfl ⟨rfl, (by repeat' (first | with_reducible exact Below.refl _ _ | with_reducible exact hB.out | with_reducible refine Below.setCell ?_ (by first | (simp; done) | (simp; omega) | omega) _ | with_reducible refine below_drewN ?_ _ | with_reducible refine Below.drew ?_ | with_reducible refine Below.alloc ?_ (by first | (simp; done) | (simp; omega) | omega) _))⟩
set_option maxHeartbeats 1000000 in
/-- what Time says of a sentence ZDA that is right -/
theorem time_zda (S : ByteArray) (f0 f1 f2 f3 f4 : List UInt8) (fs : List (List UInt8)) (M : Int) (w : World) (hS : S.size ≤ 1000000) (he : ckE S.data.toList = 0) (hf : flds S.data.toList = f0 :: f1 :: f2 :: f3 :: f4 :: fs) (hl : fs.length ≤ 1000000)
    (h0 : f0.length = 5) (hz : f0.drop 2 = [90, 68, 65])
    (h1 : f1.length ≤ 1000000) (h2 : f2.length ≤ 1000000) (h3 : f3.length ≤ 1000000) (h4 : f4.length ≤ 1000000) (hM : w.cell? ⟨0, 0, none⟩ = some (.int .i64 M))
    (hok : (tdB f1 && nuB f2 2 && nuB f3 2 && nuB f4 4) = true) :
    Calls Tryd.prog 7 #[.string S] w fun e w' => e = .returned (.tuple #[.agg #[.int .i64 (dE (nuV f4 4) (nuV f3 2) (nuV f2 2) (tdN f1 / 10000) (tdN f1 / 100 % 100) (tdN f1 % 100)), .int .u64 (dT (nuV f4 4) (nuV f3 2) (nuV f2 2) (tdN f1 / 10000) (tdN f1 / 100 % 100) (tdN f1 % 100) (tdF f1))], .int .i64 (dC (nuV f4 4) (nuV f3 2) (nuV f2 2) (tdN f1 / 10000) (tdN f1 / 100 % 100) (tdN f1 % 100))]) ∧ Below w.heap.size w w' := by
  have hlt : 0 < w.heap.size := World.block_lt_of_cell? _ _ hM
  have HC : Hid (∀ u : World, Below w.heap.size w u → Calls Tryd.prog 5 #[.string S] u fun e w' => ∃ v, e = .returned (.tuple #[v, .int .i64 0]) ∧ Hid (OwT w' u.heap.size v (f0 :: f1 :: f2 :: f3 :: f4 :: fs) ∧ Below u.heap.size u w')) := by
    intro u hu
    have h := check_ok S M u hS he ((hu.cell (p := ⟨0, 0, none⟩) hlt).trans hM)
    rw [hf] at h
    exact h
  have HV : Hid (∀ (u : World) (v : Value), Below w.heap.size w u → OwT u w.heap.size v (f0 :: f1 :: f2 :: f3 :: f4 :: fs) → Calls Tryd.prog 19 #[v] u fun e w' => e = .returned (.tuple #[.agg #[.int .i64 (nuV f4 4), .int .i64 (nuV f3 2), .int .i64 (nuV f2 2), .int .i64 (tdN f1 / 10000), .int .i64 (tdN f1 / 100 % 100), .int .i64 (tdN f1 % 100), .int .u32 (tdF f1)], .bool true]) ∧ Below u.heap.size u w') := by
    intro u v hu ho
    have h := civil_zda v f0 f1 f2 f3 f4 fs M u ho.rt hl h0 hz h1 h2 h3 h4 ((hu.cell (p := ⟨0, 0, none⟩) hlt).trans hM)
    unfold cvV at h
    rw [hok] at h
    exact h
  obtain ⟨t0, t1, tf0, tf1⟩ := td_bd f1
  clear hM hlt h0 hz h1 h2 h3 h4 he hf hS hl hok t0 t1
  generalize tdN f1 / 10000 = th at *
  generalize tdN f1 / 100 % 100 = tm at *
  generalize tdN f1 % 100 = te at *
  generalize tdF f1 = tf at *
  generalize nuV f2 2 = n2 at *
  generalize nuV f3 2 = n3 at *
  generalize nuV f4 4 = n4 at *
  have HD : Hid (∀ u : World, Calls Tryd.prog 20 #[.agg #[.int .i64 n4, .int .i64 n3, .int .i64 n2, .int .i64 th, .int .i64 tm, .int .i64 te, .int .u32 tf]] u fun e w' => e = .returned (.tuple #[.agg #[.int .i64 (dE n4 n3 n2 th tm te), .int .u64 (dT n4 n3 n2 th tm te tf)], .int .i64 (dC n4 n3 n2 th tm te)]) ∧ Below u.heap.size u w') := fun u => toDate_any n4 n3 n2 th tm te tf u tf0 tf1
  generalize dE n4 n3 n2 th tm te = E at *
  generalize dT n4 n3 n2 th tm te tf = T at *
  generalize dC n4 n3 n2 th tm te = C at *
  go_enter Tryd.func7, Tryd.ntmps7
  go_wp2_with fail
  refine (HC.out _ (by repeat' (first | with_reducible exact Below.refl _ _ | with_reducible refine Below.setCell ?_ (by first | (simp; done) | (simp; omega) | omega) _ | with_reducible refine below_drewN ?_ _ | with_reducible refine Below.drew ?_ | with_reducible refine Below.alloc ?_ (by first | (simp; done) | (simp; omega) | omega) _))).mono ?_
  rintro e w1 ⟨v, rfl, hh⟩
  have hb := hh.out.2
  have ho := hh.out.1
  obtain ⟨hcl, hfr⟩ := bcell hb
  have hz1 : w.heap.size < w1.heap.size := by have := hb.size; simp at this; omega
  have hB1 : Hid (Below w.heap.size w w1) := by
    refine Below.trans ?_ (hb.mono (by simp))
    exact (by repeat' (first | with_reducible exact Below.refl _ _ | with_reducible refine Below.setCell ?_ (by first | (simp; done) | (simp; omega) | omega) _ | with_reducible refine below_drewN ?_ _ | with_reducible refine Below.drew ?_ | with_reducible refine Below.alloc ?_ (by first | (simp; done) | (simp; omega) | omega) _))
  have HO : Hid (OwT w1 w.heap.size v (f0 :: f1 :: f2 :: f3 :: f4 :: fs)) := ho.mono (by simp)
  have p0 : w1.cell? ⟨w.heap.size, 0, none⟩ = some (.int .i64 0) := by rw [hcl _ _ (by simp)]; simp
  have p1 : w1.cell? ⟨w.heap.size, 1, none⟩ = some (.int .u64 0) := by rw [hcl _ _ (by simp)]; simp
  have pf : ∀ o, w1.frozen? ⟨w.heap.size, o, none⟩ = false := fun o => by rw [hfr _ _ (by simp)]; simp
  clear hcl hfr hb ho hh
  go_wp2_with fail
  refine (HV.out _ _ hB1.out HO.out).mono ?_
  rintro e w2 ⟨rfl, hb⟩
  have hz2 : w1.heap.size ≤ w2.heap.size := hb.size
  have hB2 : Hid (Below w.heap.size w w2) := hB1.out.trans (hb.mono (by omega))
  have q0 : w2.cell? ⟨w.heap.size, 0, none⟩ = some (.int .i64 0) := (hb.cell (p := ⟨w.heap.size, 0, none⟩) hz1).trans p0
  have q1 : w2.cell? ⟨w.heap.size, 1, none⟩ = some (.int .u64 0) := (hb.cell (p := ⟨w.heap.size, 1, none⟩) hz1).trans p1
  have qf : ∀ o, w2.frozen? ⟨w.heap.size, o, none⟩ = false := fun o => (hb.frozen (p := ⟨w.heap.size, o, none⟩) hz1).trans (pf o)
  have hz3 : w.heap.size < w2.heap.size := by omega
  clear p0 p1 pf hb HO hz1 hz2 hB1
  go_wp2_with fail
  refine (HD.out _).mono ?_
  rintro e w3 ⟨rfl, hb⟩
  have hB3 : Hid (Below w.heap.size w w3) := by
    refine Below.trans ?_ (hb.mono (by simp; omega))
    exact (by repeat' (first | with_reducible exact Below.refl _ _ | with_reducible exact hB2.out | with_reducible refine Below.setCell ?_ (by first | (simp; done) | (simp; omega) | omega) _ | with_reducible refine below_drewN ?_ _ | with_reducible refine Below.drew ?_ | with_reducible refine Below.alloc ?_ (by first | (simp; done) | (simp; omega) | omega) _))
  obtain ⟨hcl, hfr⟩ := bcell hb
  have hz5 : ∀ o : Obj, w.heap.size < (w2.alloc o).heap.size := fun o => by simp; omega
  have s0 : w3.cell? ⟨w.heap.size, 0, none⟩ = some (.int .i64 0) := by rw [hcl w.heap.size 0 (hz5 _), World.cell?_alloc_past _ _ _ hz3]; exact q0
  have s1 : w3.cell? ⟨w.heap.size, 1, none⟩ = some (.int .u64 0) := by rw [hcl w.heap.size 1 (hz5 _), World.cell?_alloc_past _ _ _ hz3]; exact q1
  have sf : ∀ o, w3.frozen? ⟨w.heap.size, o, none⟩ = false := fun o => by rw [hfr w.heap.size o (hz5 _), World.frozen?_alloc_past _ _ _ hz3]; exact qf o
  clear hcl hfr
  clear q0 q1 qf hb hB2
  simp only []
  repeat (first | go_values | go_skip | go_guarded | go_step | go_upon)
  exact bodyPost_ret (v := .tuple #[.agg #[.int .i64 E, .int .u64 T], .int .i64 C]) (by simp [results, Tryd.results7, go_sem, s0, s1]) rfl ⟨rfl, (by repeat' (first | with_reducible exact Below.refl _ _ | with_reducible exact hB3.out | with_reducible refine Below.setCell ?_ (by first | (simp; done) | (simp; omega) | omega) _ | with_reducible refine below_drewN ?_ _ | with_reducible refine Below.drew ?_ | with_reducible refine Below.alloc ?_ (by first | (simp; done) | (simp; omega) | omega) _))⟩
end Go.Proofs.YthoilihokbakoaaDoor
