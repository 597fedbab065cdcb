/- Time of package nmea, whatever the text is. -/
import Derived.Test.YthoilihokbakoaaDoorQO
namespace Go.Proofs.YthoilihokbakoaaDoor
open Go Go.RowKit
set_option maxHeartbeats 1000000 in
theorem civil_all (v : Value) (ts : List (List UInt8)) (M : Int) (w : World) (hv : Rt w v ts) (hl : ts.length ≤ 100000) (ht : ∀ t ∈ ts, t.length ≤ 100000) (h0 : 0 < ts.length) (hM : w.cell? ⟨0, 0, none⟩ = some (.int .i64 M)) :
    Calls Tryd.prog 19 #[v] w fun e w' => e = .returned (civ ts).val ∧ Below w.heap.size w w' := by
  have hlt : 0 < w.heap.size := World.block_lt_of_cell? _ _ hM
  have HZ : Hid (∀ u : World, Below w.heap.size w u → Calls Tryd.prog 34 #[v] u fun e w' => e = .returned (civZ ts).val ∧ Below u.heap.size u w') := by
    intro u hu
    exact civilOfZDA_all v ts M u (hv.below hu (Nat.le_refl _)) hl ht h0 ((hu.cell (p := ⟨0, 0, none⟩) hlt).trans hM)
  have HR : Hid (∀ u : World, Below w.heap.size w u → Calls Tryd.prog 35 #[v] u fun e w' => e = .returned (civR ts).val ∧ Below u.heap.size u w') := by
    intro u hu
    exact civilOfRMC_all v ts M u (hv.below hu (Nat.le_refl _)) hl ht h0 ((hu.cell (p := ⟨0, 0, none⟩) hlt).trans hM)
  unfold civ
  obtain ⟨g, o, cap, rfl, hg, hc⟩ := hv.rowD h0
  have k0 : w.cell? ⟨g, o, none⟩ = some (.string (tx (ts.getD 0 []))) := hc 0 h0
  have l0 := getD_le ht 0
  obtain ⟨L, hL⟩ : ∃ L, L = ts.length := ⟨_, rfl⟩
  rw [← hL] at HZ HR hl h0 ⊢
  have hli : (L : Int) ≤ 100000 := by omega
  have h0i : 0 < (L : Int) := by omega
  generalize ts.getD 0 [] = f0 at *
  obtain ⟨X, hX⟩ : ∃ X, X = tx f0 := ⟨_, rfl⟩
  have hs : X.size = f0.length := by rw [hX]; rfl
  have hsi : (X.size : Int) ≤ 100000 := by omega
  rw [← hX] at k0
  clear hc hv hL hM hlt ht hl
  by_cases h5 : f0.length = 5
  · rw [if_pos h5]
    have e1 : ((X.size : Int) != 5) = false := by rw [hs, h5]; rfl
    have e2 : 2 ≤ (X.size : Int) := by omega
    have e4 : (X.size : Int) ≤ 5 := by omega
    have eX : (X.extract 2 X.size).toList = f0.drop 2 := by
      rw [Lib.toList_data, hX, extract_tx, tx_data, tx_data, List.take_of_length_le (by rw [List.length_drop, tx_z]; omega)]
    obtain ⟨E, hE⟩ : ∃ E, X.extract 2 X.size = E := ⟨_, rfl⟩
    rw [hE] at eX
    by_cases hz : f0.drop 2 = [90, 68, 65]
    · rw [if_pos hz]
      have b1 : (E.toList == [90, 68, 65]) = true := by rw [eX, hz]; rfl
      generalize civZ ts = c at *
      clear hX h5 hs eX hz HR l0
      unfold Cv.val at HZ ⊢
      generalize c.y = cy at *
      generalize c.m = cm at *
      generalize c.d = cd at *
      generalize c.h = ch at *
      generalize c.n = cn at *
      generalize c.s = cs at *
      generalize c.f = cf at *
      generalize c.ok = ok at *
      go_enter Tryd.func19, Tryd.ntmps19
      go_wp2_with fail
      refine (HZ.out _ (by repeat' (first | with_reducible exact Below.refl _ _ | with_reducible refine Below.setCell ?_ (by first | (simp; done) | (simp; omega) | omega) _ | with_reducible refine below_drewN ?_ _ | with_reducible refine Below.drew ?_ | with_reducible refine Below.alloc ?_ (by first | (simp; done) | (simp; omega) | omega) _))).mono ?_
      rintro e w1 ⟨rfl, hb⟩
      obtain ⟨hcl, hfr⟩ := bcell hb
      have hz : w.heap.size < w1.heap.size := by have := hb.size; simp at this; omega
      have hB : Hid (Below w.heap.size w w1) := by
        refine Below.trans ?_ (hb.mono (by simp))
        exact (by repeat' (first | with_reducible exact Below.refl _ _ | with_reducible refine Below.setCell ?_ (by first | (simp; done) | (simp; omega) | omega) _ | with_reducible refine below_drewN ?_ _ | with_reducible refine Below.drew ?_ | with_reducible refine Below.alloc ?_ (by first | (simp; done) | (simp; omega) | omega) _))
      have r0 : w1.cell? ⟨w.heap.size, 0, none⟩ = some (.int .i64 0) := by rw [hcl _ _ (by simp)]; simp
      have r1 : w1.cell? ⟨w.heap.size, 1, none⟩ = some (.int .i64 0) := by rw [hcl _ _ (by simp)]; simp
      have r2 : w1.cell? ⟨w.heap.size, 2, none⟩ = some (.int .i64 0) := by rw [hcl _ _ (by simp)]; simp
      have r3 : w1.cell? ⟨w.heap.size, 3, none⟩ = some (.int .i64 0) := by rw [hcl _ _ (by simp)]; simp
      have r4 : w1.cell? ⟨w.heap.size, 4, none⟩ = some (.int .i64 0) := by rw [hcl _ _ (by simp)]; simp
      have r5 : w1.cell? ⟨w.heap.size, 5, none⟩ = some (.int .i64 0) := by rw [hcl _ _ (by simp)]; simp
      have r6 : w1.cell? ⟨w.heap.size, 6, none⟩ = some (.int .u32 0) := by rw [hcl _ _ (by simp)]; simp
      have rf : ∀ o, w1.frozen? ⟨w.heap.size, o, none⟩ = false := fun o => by rw [hfr _ _ (by simp)]; simp
      clear hcl hfr hb
      simp only []
      repeat (first | go_values | go_skip | go_guarded | go_step | go_upon)
      exact bodyPost_ret (v := .tuple #[.agg #[.int .i64 cy, .int .i64 cm, .int .i64 cd, .int .i64 ch, .int .i64 cn, .int .i64 cs, .int .u32 cf], .bool ok]) (by simp [results, Tryd.results19, go_sem, r0, r1, r2, r3, r4, r5, r6]) rfl ⟨rfl, (by repeat' (first | with_reducible exact Below.refl _ _ | with_reducible exact hB.out | with_reducible refine Below.setCell ?_ (by first | (simp; done) | (simp; omega) | omega) _ | with_reducible refine below_drewN ?_ _ | with_reducible refine Below.drew ?_ | with_reducible refine Below.alloc ?_ (by first | (simp; done) | (simp; omega) | omega) _))⟩
    · rw [if_neg hz]
      have b1 : (E.toList == [90, 68, 65]) = false := by rw [eX, beq_eq_false_iff_ne]; exact hz
      by_cases hr : f0.drop 2 = [82, 77, 67]
      · rw [if_pos hr]
        have b2 : (E.toList == [82, 77, 67]) = true := by rw [eX, hr]; rfl
        generalize civR ts = c at *
        clear hX h5 hs eX hz HZ hr l0
        unfold Cv.val at HR ⊢
        generalize c.y = cy at *
        generalize c.m = cm at *
        generalize c.d = cd at *
        generalize c.h = ch at *
        generalize c.n = cn at *
        generalize c.s = cs at *
        generalize c.f = cf at *
        generalize c.ok = ok at *
        go_enter Tryd.func19, Tryd.ntmps19
        go_wp2_with fail
        refine (HR.out _ (by repeat' (first | with_reducible exact Below.refl _ _ | with_reducible refine Below.setCell ?_ (by first | (simp; done) | (simp; omega) | omega) _ | with_reducible refine below_drewN ?_ _ | with_reducible refine Below.drew ?_ | with_reducible refine Below.alloc ?_ (by first | (simp; done) | (simp; omega) | omega) _))).mono ?_
        rintro e w1 ⟨rfl, hb⟩
        obtain ⟨hcl, hfr⟩ := bcell hb
        have hz : w.heap.size < w1.heap.size := by have := hb.size; simp at this; omega
        have hB : Hid (Below w.heap.size w w1) := by
          refine Below.trans ?_ (hb.mono (by simp))
          exact (by repeat' (first | with_reducible exact Below.refl _ _ | with_reducible refine Below.setCell ?_ (by first | (simp; done) | (simp; omega) | omega) _ | with_reducible refine below_drewN ?_ _ | with_reducible refine Below.drew ?_ | with_reducible refine Below.alloc ?_ (by first | (simp; done) | (simp; omega) | omega) _))
        have r0 : w1.cell? ⟨w.heap.size, 0, none⟩ = some (.int .i64 0) := by rw [hcl _ _ (by simp)]; simp
        have r1 : w1.cell? ⟨w.heap.size, 1, none⟩ = some (.int .i64 0) := by rw [hcl _ _ (by simp)]; simp
        have r2 : w1.cell? ⟨w.heap.size, 2, none⟩ = some (.int .i64 0) := by rw [hcl _ _ (by simp)]; simp
        have r3 : w1.cell? ⟨w.heap.size, 3, none⟩ = some (.int .i64 0) := by rw [hcl _ _ (by simp)]; simp
        have r4 : w1.cell? ⟨w.heap.size, 4, none⟩ = some (.int .i64 0) := by rw [hcl _ _ (by simp)]; simp
        have r5 : w1.cell? ⟨w.heap.size, 5, none⟩ = some (.int .i64 0) := by rw [hcl _ _ (by simp)]; simp
        have r6 : w1.cell? ⟨w.heap.size, 6, none⟩ = some (.int .u32 0) := by rw [hcl _ _ (by simp)]; simp
        have rf : ∀ o, w1.frozen? ⟨w.heap.size, o, none⟩ = false := fun o => by rw [hfr _ _ (by simp)]; simp
        clear hcl hfr hb
        simp only []
        repeat (first | go_values | go_skip | go_guarded | go_step | go_upon)
        exact bodyPost_ret (v := .tuple #[.agg #[.int .i64 cy, .int .i64 cm, .int .i64 cd, .int .i64 ch, .int .i64 cn, .int .i64 cs, .int .u32 cf], .bool ok]) (by simp [results, Tryd.results19, go_sem, r0, r1, r2, r3, r4, r5, r6]) rfl ⟨rfl, (by repeat' (first | with_reducible exact Below.refl _ _ | with_reducible exact hB.out | with_reducible refine Below.setCell ?_ (by first | (simp; done) | (simp; omega) | omega) _ | with_reducible refine below_drewN ?_ _ | with_reducible refine Below.drew ?_ | with_reducible refine Below.alloc ?_ (by first | (simp; done) | (simp; omega) | omega) _))⟩
      · rw [if_neg hr]
        have b2 : (E.toList == [82, 77, 67]) = false := by rw [eX, beq_eq_false_iff_ne]; exact hr
        clear hX h5 hs eX hz HZ HR hr l0
        go_enter Tryd.func19, Tryd.ntmps19
        repeat (first | go_values | go_skip | go_guarded | go_step | go_upon)
        exact bodyPost_ret (v := cvNo.val) (by simp [results, Tryd.results19, go_sem, cvNo, Cv.val]) rfl ⟨rfl, (by repeat' (first | with_reducible exact Below.refl _ _ | with_reducible refine Below.setCell ?_ (by first | (simp; done) | (simp; omega) | omega) _ | with_reducible refine below_drewN ?_ _ | with_reducible refine Below.drew ?_ | with_reducible refine Below.alloc ?_ (by first | (simp; done) | (simp; omega) | omega) _))⟩
  · rw [if_neg h5]
    have e1 : ((X.size : Int) != 5) = true := by rw [bne_iff_ne]; omega
    clear hX h5 hs HZ HR l0
    go_enter Tryd.func19, Tryd.ntmps19
    repeat (first | go_values | go_skip | go_guarded | go_step | go_upon)
    exact bodyPost_ret (v := cvNo.val) (by simp [results, Tryd.results19, go_sem, cvNo, Cv.val]) rfl ⟨rfl, (by repeat' (first | with_reducible exact Below.refl _ _ | with_reducible refine Below.setCell ?_ (by first | (simp; done) | (simp; omega) | omega) _ | with_reducible refine below_drewN ?_ _ | with_reducible refine Below.drew ?_ | with_reducible refine Below.alloc ?_ (by first | (simp; done) | (simp; omega) | omega) _))⟩
/-- what Time says -/
def tmV (l : List UInt8) : Value :=
  if ckE l = 0 then
    (if (civ (flds l)).ok = true then .tuple #[.agg #[.int .i64 (dE (civ (flds l)).y (civ (flds l)).m (civ (flds l)).d (civ (flds l)).h (civ (flds l)).n (civ (flds l)).s), .int .u64 (dT (civ (flds l)).y (civ (flds l)).m (civ (flds l)).d (civ (flds l)).h (civ (flds l)).n (civ (flds l)).s (civ (flds l)).f)], .int .i64 (dC (civ (flds l)).y (civ (flds l)).m (civ (flds l)).d (civ (flds l)).h (civ (flds l)).n (civ (flds l)).s)]
    else noD 21)
  else noD (ckE l)
theorem ct_mem (b : UInt8) : ∀ (l cur : List UInt8), ∀ t ∈ ct b cur l, t.length ≤ cur.length + l.length := by
  intro l
  induction l with
  | nil => intro cur t ht; rw [ct_nil, List.mem_singleton] at ht; subst ht; simp
  | cons c r ih =>
    intro cur t ht
    rw [ct] at ht
    split at ht
    · rw [List.mem_cons] at ht
      rcases ht with rfl | ht
      · simp
      · have := ih [] t ht; simp at this ⊢; omega
    · have := ih _ t ht; simp at this ⊢; omega
theorem flds_bd (l : List UInt8) : 0 < (flds l).length ∧ (flds l).length ≤ l.length + 1 ∧ ∀ t ∈ flds l, t.length ≤ l.length := by
  unfold flds
  have h1 := ct_len 44 (l.take (l.length - 3)) []
  have h2 := ct_pos 44 (l.take (l.length - 3)) []
  refine ⟨h2, ?_, fun t ht => ?_⟩
  · rw [List.length_take] at h1; omega
  · have := ct_mem 44 _ _ t ht
    rw [List.length_take] at this
    simp at this
    omega
set_option maxHeartbeats 1000000 in
theorem time_all (S : ByteArray) (M : Int) (w : World) (hS : S.size ≤ 65536) (hM : w.cell? ⟨0, 0, none⟩ = some (.int .i64 M)) :
    Calls Tryd.prog 7 #[.string S] w fun e w' => e = .returned (tmV S.data.toList) ∧ Below w.heap.size w w' := by
  have hlt : 0 < w.heap.size := World.block_lt_of_cell? _ _ hM
  unfold tmV
  by_cases he : ckE S.data.toList = 0
  · rw [if_pos he]
    have HC : Hid (∀ u : World, Below w.heap.size w u → Calls Tryd.prog 5 #[.string S] u fun e w' => ∃ v, e = .returned (.tuple #[v, .int .i64 0]) ∧ Hid (OwT w' u.heap.size v (flds S.data.toList) ∧ Below u.heap.size u w')) := by
      intro u hu
      exact check_ok S M u (by omega) he ((hu.cell (p := ⟨0, 0, none⟩) hlt).trans hM)
    have hl : S.data.toList.length = S.size := by simp
    obtain ⟨g1, g2, g3⟩ := flds_bd S.data.toList
    have HV : Hid (∀ (u : World) (v : Value), Below w.heap.size w u → OwT u w.heap.size v (flds S.data.toList) → Calls Tryd.prog 19 #[v] u fun e w' => e = .returned (civ (flds S.data.toList)).val ∧ Below u.heap.size u w') := by
      intro u v hu ho
      exact civil_all v (flds S.data.toList) M u ho.rt (by omega) (fun t ht => by have := g3 t ht; omega) g1 ((hu.cell (p := ⟨0, 0, none⟩) hlt).trans hM)
    obtain ⟨tf0, tf1⟩ := cvF_bd (flds S.data.toList)
    generalize civ (flds S.data.toList) = c at *
    generalize flds S.data.toList = ts at *
    clear hM hlt he hS hl g1 g2 g3
    unfold Cv.val at HV
    generalize c.y = cy at *
    generalize c.m = cm at *
    generalize c.d = cd at *
    generalize c.h = ch at *
    generalize c.n = cn at *
    generalize c.s = cs at *
    generalize c.f = cf at *
    generalize c.ok = ok at *
    have HD : Hid (∀ u : World, Calls Tryd.prog 20 #[.agg #[.int .i64 cy, .int .i64 cm, .int .i64 cd, .int .i64 ch, .int .i64 cn, .int .i64 cs, .int .u32 cf]] u fun e w' => e = .returned (.tuple #[.agg #[.int .i64 (dE cy cm cd ch cn cs), .int .u64 (dT cy cm cd ch cn cs cf)], .int .i64 (dC cy cm cd ch cn cs)]) ∧ Below u.heap.size u w') := fun u => toDate_any cy cm cd ch cn cs cf u tf0 tf1
    generalize dE cy cm cd ch cn cs = E at *
    generalize dT cy cm cd ch cn cs cf = T at *
    generalize dC cy cm cd ch cn cs = C at *
    obtain ⟨RV, hRV⟩ : ∃ RV, RV = (if ok = true then Value.tuple #[.agg #[.int .i64 E, .int .u64 T], .int .i64 C] else noD 21) := ⟨_, rfl⟩
    rw [← hRV]
    have HRV : Hid (RV = (if ok = true then Value.tuple #[.agg #[.int .i64 E, .int .u64 T], .int .i64 C] else noD 21)) := hRV
    clear hRV
    go_enter Tryd.func7, Tryd.ntmps7
    go_wp2_with fail
    refine (HC.out _ (by repeat' (first | with_reducible exact Below.refl _ _ | with_reducible refine Below.setCell ?_ (by first | (simp; done) | (simp; omega) | omega) _ | with_reducible refine below_drewN ?_ _ | with_reducible refine Below.drew ?_ | with_reducible refine Below.alloc ?_ (by first | (simp; done) | (simp; omega) | omega) _))).mono ?_
    rintro e w1 ⟨v, rfl, hh⟩
    have hb := hh.out.2
    have ho := hh.out.1
    obtain ⟨hcl, hfr⟩ := bcell hb
    have hz1 : w.heap.size < w1.heap.size := by have := hb.size; simp at this; omega
    have hB1 : Hid (Below w.heap.size w w1) := by
      refine Below.trans ?_ (hb.mono (by simp))
      exact (by repeat' (first | with_reducible exact Below.refl _ _ | with_reducible refine Below.setCell ?_ (by first | (simp; done) | (simp; omega) | omega) _ | with_reducible refine below_drewN ?_ _ | with_reducible refine Below.drew ?_ | with_reducible refine Below.alloc ?_ (by first | (simp; done) | (simp; omega) | omega) _))
    have HO : Hid (OwT w1 w.heap.size v ts) := ho.mono (by simp)
    have p0 : w1.cell? ⟨w.heap.size, 0, none⟩ = some (.int .i64 0) := by rw [hcl _ _ (by simp)]; simp
    have p1 : w1.cell? ⟨w.heap.size, 1, none⟩ = some (.int .u64 0) := by rw [hcl _ _ (by simp)]; simp
    have pf : ∀ o, w1.frozen? ⟨w.heap.size, o, none⟩ = false := fun o => by rw [hfr _ _ (by simp)]; simp
    clear hcl hfr hb ho hh
    go_wp2_with fail
    refine (HV.out _ _ hB1.out HO.out).mono ?_
    rintro e w2 ⟨rfl, hb⟩
    have hz2 : w1.heap.size ≤ w2.heap.size := hb.size
    have hB2 : Hid (Below w.heap.size w w2) := hB1.out.trans (hb.mono (by omega))
    have q0 : w2.cell? ⟨w.heap.size, 0, none⟩ = some (.int .i64 0) := (hb.cell (p := ⟨w.heap.size, 0, none⟩) hz1).trans p0
    have q1 : w2.cell? ⟨w.heap.size, 1, none⟩ = some (.int .u64 0) := (hb.cell (p := ⟨w.heap.size, 1, none⟩) hz1).trans p1
    have qf : ∀ o, w2.frozen? ⟨w.heap.size, o, none⟩ = false := fun o => (hb.frozen (p := ⟨w.heap.size, o, none⟩) hz1).trans (pf o)
    have hz3 : w.heap.size < w2.heap.size := by omega
    clear p0 p1 pf hb HO hz1 hz2 hB1
    cases ok
    · have hRV : RV = noD 21 := HRV.out
      subst hRV
      simp only []
      repeat (first | go_values | go_skip | go_guarded | go_step | go_upon)
      exact bodyPost_ret (v := noD 21) (by simp [results, Tryd.results7, go_sem, noD, q0, q1, hz3]) rfl ⟨rfl, (by repeat' (first | with_reducible exact Below.refl _ _ | with_reducible exact hB2.out | with_reducible refine Below.setCell ?_ (by first | (simp; done) | (simp; omega) | omega) _ | with_reducible refine below_drewN ?_ _ | with_reducible refine Below.drew ?_ | with_reducible refine Below.alloc ?_ (by first | (simp; done) | (simp; omega) | omega) _))⟩
    · have hRV : RV = Value.tuple #[.agg #[.int .i64 E, .int .u64 T], .int .i64 C] := HRV.out
      subst hRV
      clear HRV
      go_wp2_with fail
      refine (HD.out _).mono ?_
      rintro e w3 ⟨rfl, hb⟩
      have hB3 : Hid (Below w.heap.size w w3) := by
        refine Below.trans ?_ (hb.mono (by simp; omega))
        exact (by repeat' (first | with_reducible exact Below.refl _ _ | with_reducible exact hB2.out | with_reducible refine Below.setCell ?_ (by first | (simp; done) | (simp; omega) | omega) _ | with_reducible refine below_drewN ?_ _ | with_reducible refine Below.drew ?_ | with_reducible refine Below.alloc ?_ (by first | (simp; done) | (simp; omega) | omega) _))
      obtain ⟨hcl, hfr⟩ := bcell hb
      have hz5 : ∀ o : Obj, w.heap.size < (w2.alloc o).heap.size := fun o => by simp; omega
      have s0 : w3.cell? ⟨w.heap.size, 0, none⟩ = some (.int .i64 0) := by rw [hcl w.heap.size 0 (hz5 _), World.cell?_alloc_past _ _ _ hz3]; exact q0
      have s1 : w3.cell? ⟨w.heap.size, 1, none⟩ = some (.int .u64 0) := by rw [hcl w.heap.size 1 (hz5 _), World.cell?_alloc_past _ _ _ hz3]; exact q1
      have sf : ∀ o, w3.frozen? ⟨w.heap.size, o, none⟩ = false := fun o => by rw [hfr w.heap.size o (hz5 _), World.frozen?_alloc_past _ _ _ hz3]; exact qf o
      clear q0 q1 qf hcl hfr hb hB2
      simp only []
      repeat (first | go_values | go_skip | go_guarded | go_step | go_upon)
      exact bodyPost_ret (v := .tuple #[.agg #[.int .i64 E, .int .u64 T], .int .i64 C]) (by simp [results, Tryd.results7, go_sem, s0, s1]) rfl ⟨rfl, (by repeat' (first | with_reducible exact Below.refl _ _ | with_reducible exact hB3.out | with_reducible refine Below.setCell ?_ (by first | (simp; done) | (simp; omega) | omega) _ | with_reducible refine below_drewN ?_ _ | with_reducible refine Below.drew ?_ | with_reducible refine Below.alloc ?_ (by first | (simp; done) | (simp; omega) | omega) _))⟩
  · rw [if_neg he]
    have HC : Hid (∀ u : World, Calls Tryd.prog 5 #[.string S] u fun e w' => e = .returned (.tuple #[.slice none 0 0, .int .i64 (ckE S.data.toList)]) ∧ w' = u) := fun u => check_err S u (by omega) he
    have hcs := ckE_cases S.data.toList
    generalize ckE S.data.toList = c at *
    clear hM hlt hS
    have hc2 : (c != 0) = true := bne_iff_ne.2 he
    clear he
    go_enter Tryd.func7, Tryd.ntmps7
    go_wp2_with fail
    refine (HC.out _).mono ?_
    rintro e w1 ⟨rfl, hw⟩
    rw [hw]
    clear hw
    simp only []
    repeat (first | go_values | go_skip | go_guarded | go_step | go_upon)
    exact bodyPost_ret (v := noD c) (by simp [results, Tryd.results7, go_sem, noD]) rfl ⟨rfl, (by repeat' (first | with_reducible exact Below.refl _ _ | with_reducible refine Below.setCell ?_ (by first | (simp; done) | (simp; omega) | omega) _ | with_reducible refine below_drewN ?_ _ | with_reducible refine Below.drew ?_ | with_reducible refine Below.alloc ?_ (by first | (simp; done) | (simp; omega) | omega) _))⟩
end Go.Proofs.YthoilihokbakoaaDoor
