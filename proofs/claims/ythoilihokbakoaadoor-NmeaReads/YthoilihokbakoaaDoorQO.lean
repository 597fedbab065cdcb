/- The dates of sentences, whatever their fields are, in package nmea. -/
import Derived.Test.YthoilihokbakoaaDoorQL
namespace Go.Proofs.YthoilihokbakoaaDoor
open Go Go.RowKit
/-- a calendar's date, and whether it is told -/
structure Cv where
  y : Int
  m : Int
  d : Int
  h : Int
  n : Int
  s : Int
  f : Int
  ok : Bool
def Cv.val (c : Cv) : Value := .tuple #[.agg #[.int .i64 c.y, .int .i64 c.m, .int .i64 c.d, .int .i64 c.h, .int .i64 c.n, .int .i64 c.s, .int .u32 c.f], .bool c.ok]
def cvNo : Cv := ⟨0, 0, 0, 0, 0, 0, 0, false⟩
def cvZ (h d m y : List UInt8) : Cv := ⟨nuV y 4, nuV m 2, nuV d 2, tdN h / 10000, tdN h / 100 % 100, tdN h % 100, tdF h, tdB h && nuB d 2 && nuB m 2 && nuB y 4⟩
def yr (n : Int) : Int := if n % 100 < 80 then n % 100 + 100 + 1900 else n % 100 + 1900
def cvR (h d : List UInt8) : Cv := ⟨yr (nuV d 6), nuV d 6 / 100 % 100, nuV d 6 / 10000, tdN h / 10000, tdN h / 100 % 100, tdN h % 100, tdF h, tdB h && nuB d 6⟩
def civZ (ts : List (List UInt8)) : Cv := if ts.length < 5 then cvNo else cvZ (ts.getD 1 []) (ts.getD 2 []) (ts.getD 3 []) (ts.getD 4 [])
def civR (ts : List (List UInt8)) : Cv := if ts.length < 10 then cvNo else if ts.getD 2 [] = [65] then cvR (ts.getD 1 []) (ts.getD 9 []) else cvNo
def civ (ts : List (List UInt8)) : Cv := if (ts.getD 0 []).length = 5 then (if (ts.getD 0 []).drop 2 = [90, 68, 65] then civZ ts else if (ts.getD 0 []).drop 2 = [82, 77, 67] then civR ts else cvNo) else cvNo
theorem Rt.rowD {w : World} {v : Value} {ts : List (List UInt8)} (h : Rt w v ts) (h0 : 0 < ts.length) :
    ∃ g o cap, v = .slice (some ⟨g, o, none⟩) ts.length cap ∧ g < w.heap.size ∧ ∀ k, k < ts.length → w.cell? ⟨g, o + k, none⟩ = some (.string (tx (ts.getD k []))) := by
  obtain ⟨g, o, cap, h1, h2, h3, h4⟩ := h.row h0
  refine ⟨g, o, cap, h1, h3, fun k hk => ?_⟩
  rw [h4 k hk]
  simp [List.getD, List.getElem?_eq_getElem hk]
theorem getD_le {ts : List (List UInt8)} {n : Nat} (h : ∀ t ∈ ts, t.length ≤ n) (k : Nat) : (ts.getD k []).length ≤ n := by
  rw [List.getD_eq_getElem?_getD]
  cases hk : ts[k]? with
  | none => simp
  | some t => exact h t (List.mem_of_getElem? hk)
theorem cvF_bd (ts : List (List UInt8)) : 0 ≤ (civ ts).f ∧ (civ ts).f < 4294967296 := by
  have h0 : 0 ≤ cvNo.f ∧ cvNo.f < 4294967296 := by decide
  have h1 : ∀ l, 0 ≤ tdF l ∧ tdF l < 4294967296 := fun l => (td_bd l).2.2
  unfold civ civZ civR
  repeat' split
  all_goals first | exact h0 | exact h1 _
set_option maxHeartbeats 1000000 in
theorem civilOfZDA_all (v : Value) (ts : List (List UInt8)) (M : Int) (w : World) (hv : Rt w v ts) (hl : ts.length ≤ 100000) (ht : ∀ t ∈ ts, t.length ≤ 100000) (h0 : 0 < ts.length) (hM : w.cell? ⟨0, 0, none⟩ = some (.int .i64 M)) :
    Calls Tryd.prog 34 #[v] w fun e w' => e = .returned (civZ ts).val ∧ Below w.heap.size w w' := by
  unfold civZ
  by_cases h5 : ts.length < 5
  · rw [if_pos h5]
    obtain ⟨g, o, cap, rfl, hg, hc⟩ := hv.rowD h0
    obtain ⟨L, hL⟩ : ∃ L, L = ts.length := ⟨_, rfl⟩
    rw [← hL] at h5 ⊢
    have h5i : (L : Int) < 5 := by omega
    clear hc hv hl ht h0 hM hL h5
    go_enter Tryd.func34, Tryd.ntmps34
    repeat (first | go_values | go_skip | go_guarded | go_step | go_upon)
    exact bodyPost_ret (v := cvNo.val) (by simp [results, Tryd.results34, go_sem, cvNo, Cv.val]) rfl ⟨rfl, (by repeat' (first | with_reducible exact Below.refl _ _ | with_reducible refine Below.setCell ?_ (by first | (simp; done) | (simp; omega) | omega) _ | with_reducible refine below_drewN ?_ _ | with_reducible refine Below.drew ?_ | with_reducible refine Below.alloc ?_ (by first | (simp; done) | (simp; omega) | omega) _))⟩
  · rw [if_neg h5]
    match ts, hv, hl, ht, h5 with
    | f0 :: f1 :: f2 :: f3 :: f4 :: fs, hv, hl, ht, _ =>
      simp at hl ht
      exact civilOfZDA_any v f0 f1 f2 f3 f4 fs M w hv (by omega) (by omega) (by omega) (by omega) (by omega) hM
    | [], _, _, _, h5 => exact absurd h5 (by simp)
    | [_], _, _, _, h5 => exact absurd h5 (by simp)
    | [_, _], _, _, _, h5 => exact absurd h5 (by simp)
    | [_, _, _], _, _, _, h5 => exact absurd h5 (by simp)
    | [_, _, _, _], _, _, _, h5 => exact absurd h5 (by simp)
set_option maxHeartbeats 1000000 in
theorem civilOfRMC_all (v : Value) (ts : List (List UInt8)) (M : Int) (w : World) (hv : Rt w v ts) (hl : ts.length ≤ 100000) (ht : ∀ t ∈ ts, t.length ≤ 100000) (h0 : 0 < ts.length) (hM : w.cell? ⟨0, 0, none⟩ = some (.int .i64 M)) :
    Calls Tryd.prog 35 #[v] w fun e w' => e = .returned (civR ts).val ∧ Below w.heap.size w w' := by
  unfold civR
  obtain ⟨g, o, cap, rfl, hg, hc⟩ := hv.rowD h0
  obtain ⟨L, hL⟩ : ∃ L, L = ts.length := ⟨_, rfl⟩
  rw [← hL] at hl h0 hc ⊢
  have hli : (L : Int) ≤ 100000 := by omega
  by_cases h5 : L < 10
  · rw [if_pos h5]
    have h5i : (L : Int) < 10 := by omega
    clear hc hv hl ht h0 hM hL h5
    go_enter Tryd.func35, Tryd.ntmps35
    repeat (first | go_values | go_skip | go_guarded | go_step | go_upon)
    exact bodyPost_ret (v := cvNo.val) (by simp [results, Tryd.results35, go_sem, cvNo, Cv.val]) rfl ⟨rfl, (by repeat' (first | with_reducible exact Below.refl _ _ | with_reducible refine Below.setCell ?_ (by first | (simp; done) | (simp; omega) | omega) _ | with_reducible refine below_drewN ?_ _ | with_reducible refine Below.drew ?_ | with_reducible refine Below.alloc ?_ (by first | (simp; done) | (simp; omega) | omega) _))⟩
  · rw [if_neg h5]
    have h5i : ¬ (L : Int) < 10 := by omega
    have k1 := hc 1 (by omega)
    have k2 := hc 2 (by omega)
    have k9 := hc 9 (by omega)
    have l1 := getD_le ht 1
    have l9 := getD_le ht 9
    have hlt : 0 < w.heap.size := World.block_lt_of_cell? _ _ hM
    generalize ts.getD 1 [] = f1 at *
    generalize ts.getD 2 [] = f2 at *
    generalize ts.getD 9 [] = f9 at *
    clear hc hv hl ht h0 hL h5
    by_cases hA : f2 = [65]
    · rw [if_pos hA]
      have hA2 : tx f2 = ⟨#[65]⟩ := by rw [hA]; rfl
      rw [hA2] at k2
      have HT : Hid (∀ u : World, Below w.heap.size w u → Calls Tryd.prog 46 #[.string (tx f1)] u fun e w' => e = .returned (.tuple #[.agg #[.int .i64 0, .int .i64 0, .int .i64 0, .int .i64 (tdN f1 / 10000), .int .i64 (tdN f1 / 100 % 100), .int .i64 (tdN f1 % 100), .int .u32 (tdF f1)], .bool (tdB f1)]) ∧ Below u.heap.size u w') := by
        intro u hu
        have h := timeOfDay_any (tx f1) M u (by rw [tx_z]; omega) ((hu.cell (p := ⟨0, 0, none⟩) hlt).trans hM)
        rw [tx_data] at h
        exact h
      have H9 : Hid (∀ u : World, Calls Tryd.prog 47 #[.string (tx f9), .int .i64 6] u fun e w' => e = .returned (.tuple #[.int .i64 (nuV f9 6), .bool (nuB f9 6)]) ∧ w' = u) := fun u => number_tx f9 6 u (by omega) (by decide)
      obtain ⟨n0, n1⟩ := nu_bd f9 6 (by decide)
      have HV : Hid ((cvR f1 f9).val = .tuple #[.agg #[.int .i64 (yr (nuV f9 6)), .int .i64 (nuV f9 6 / 100 % 100), .int .i64 (nuV f9 6 / 10000), .int .i64 (tdN f1 / 10000), .int .i64 (tdN f1 / 100 % 100), .int .i64 (tdN f1 % 100), .int .u32 (tdF f1)], .bool (tdB f1 && nuB f9 6)]) := rfl
      generalize (cvR f1 f9).val = RV at HV ⊢
      generalize tdN f1 / 10000 = th at *
      generalize tdN f1 / 100 % 100 = tm at *
      generalize tdN f1 % 100 = te at *
      generalize tdF f1 = tf at *
      generalize tdB f1 = tb at *
      generalize nuV f9 6 = N at *
      generalize nuB f9 6 = b9 at *
      generalize tx f1 = X1 at *
      generalize tx f9 = X9 at *
      clear hA hA2 l1 l9 hM hlt
      have HP : Hid (∀ u : World, Calls Tryd.prog 48 #[.int .i64 N] u fun e w' => e = .returned (.tuple #[.int .i64 (N / 10000), .int .i64 (N / 100 % 100), .int .i64 (N % 100)]) ∧ w' = u) := fun u => threePairs_any N u n0 n1
      have HY : Hid (yr N = if N % 100 < 80 then N % 100 + 100 + 1900 else N % 100 + 1900) := rfl
      obtain ⟨YY, hYY⟩ : ∃ YY, YY = N % 100 := ⟨_, rfl⟩
      have y0 : 0 ≤ YY := by omega
      have y1 : YY < 100 := by omega
      rw [← hYY] at HP HY
      generalize yr N = Y2 at *
      generalize N / 10000 = D2 at *
      generalize N / 100 % 100 = M2 at *
      clear hYY n0 n1
      go_enter Tryd.func35, Tryd.ntmps35
      go_wp2_with fail
      refine (HT.out _ (by repeat' (first | with_reducible exact Below.refl _ _ | with_reducible refine Below.setCell ?_ (by first | (simp; done) | (simp; omega) | omega) _ | with_reducible refine below_drewN ?_ _ | with_reducible refine Below.drew ?_ | with_reducible refine Below.alloc ?_ (by first | (simp; done) | (simp; omega) | omega) _))).mono ?_
      rintro e w1 ⟨rfl, hb⟩
      obtain ⟨hcl, hfr⟩ := bcell hb
      have hz : w.heap.size < w1.heap.size := by have := hb.size; simp at this; omega
      have hB : Hid (Below w.heap.size w w1) := by
        refine Below.trans ?_ (hb.mono (by simp))
        exact (by repeat' (first | with_reducible exact Below.refl _ _ | with_reducible refine Below.setCell ?_ (by first | (simp; done) | (simp; omega) | omega) _ | with_reducible refine below_drewN ?_ _ | with_reducible refine Below.drew ?_ | with_reducible refine Below.alloc ?_ (by first | (simp; done) | (simp; omega) | omega) _))
      have r0 : w1.cell? ⟨w.heap.size, 0, none⟩ = some (.int .i64 0) := by rw [hcl _ _ (by simp)]; simp
      have r1 : w1.cell? ⟨w.heap.size, 1, none⟩ = some (.int .i64 0) := by rw [hcl _ _ (by simp)]; simp
      have r2 : w1.cell? ⟨w.heap.size, 2, none⟩ = some (.int .i64 0) := by rw [hcl _ _ (by simp)]; simp
      have r3 : w1.cell? ⟨w.heap.size, 3, none⟩ = some (.int .i64 0) := by rw [hcl _ _ (by simp)]; simp
      have r4 : w1.cell? ⟨w.heap.size, 4, none⟩ = some (.int .i64 0) := by rw [hcl _ _ (by simp)]; simp
      have r5 : w1.cell? ⟨w.heap.size, 5, none⟩ = some (.int .i64 0) := by rw [hcl _ _ (by simp)]; simp
      have r6 : w1.cell? ⟨w.heap.size, 6, none⟩ = some (.int .u32 0) := by rw [hcl _ _ (by simp)]; simp
      have rf : ∀ o, w1.frozen? ⟨w.heap.size, o, none⟩ = false := fun o => by rw [hfr _ _ (by simp)]; simp
      have q9 : w1.cell? ⟨g, o + 9, none⟩ = some (.string X9) := (hB.out.cell (p := ⟨g, o + 9, none⟩) hg).trans k9
      have hgz : g < w1.heap.size := by omega
      have hgn : g ≠ w1.heap.size := by omega
      have hgr : g ≠ w.heap.size := by omega
      have hrn : w.heap.size ≠ w1.heap.size := by omega
      clear hcl hfr hb k1 k2 k9
      go_wp2_with fail
      refine (H9.out _).mono ?_
      rintro e w2 ⟨rfl, hw⟩
      rw [hw]
      clear hw
      go_wp2_with fail
      refine (HP.out _).mono ?_
      rintro e w2 ⟨rfl, hw⟩
      rw [hw]
      clear hw
      simp only []
      by_cases hY : YY < 80
      · have hY2 : Y2 = YY + 100 + 1900 := by rw [HY.out, if_pos hY]
        subst hY2
        clear HY
        cases tb
        · repeat (first | go_values | go_skip | go_guarded | go_step | go_upon)
          exact bodyPost_ret (v := RV) (by rw [HV.out]; simp [results, Tryd.results35, go_sem, r0, r1, r2, r3, r4, r5, r6, hz]) rfl ⟨rfl, (by repeat' (first | with_reducible exact Below.refl _ _ | with_reducible exact hB.out | with_reducible refine Below.setCell ?_ (by first | (simp; done) | (simp; omega) | omega) _ | with_reducible refine below_drewN ?_ _ | with_reducible refine Below.drew ?_ | with_reducible refine Below.alloc ?_ (by first | (simp; done) | (simp; omega) | omega) _))⟩
        · repeat (first | go_values | go_skip | go_guarded | go_step | go_upon)
          exact bodyPost_ret (v := RV) (by rw [HV.out]; simp [results, Tryd.results35, go_sem, r0, r1, r2, r3, r4, r5, r6, hz]) rfl ⟨rfl, (by repeat' (first | with_reducible exact Below.refl _ _ | with_reducible exact hB.out | with_reducible refine Below.setCell ?_ (by first | (simp; done) | (simp; omega) | omega) _ | with_reducible refine below_drewN ?_ _ | with_reducible refine Below.drew ?_ | with_reducible refine Below.alloc ?_ (by first | (simp; done) | (simp; omega) | omega) _))⟩
      · have hY2 : Y2 = YY + 1900 := by rw [HY.out, if_neg hY]
        subst hY2
        clear HY
        cases tb
        · repeat (first | go_values | go_skip | go_guarded | go_step | go_upon)
          exact bodyPost_ret (v := RV) (by rw [HV.out]; simp [results, Tryd.results35, go_sem, r0, r1, r2, r3, r4, r5, r6, hz]) rfl ⟨rfl, (by repeat' (first | with_reducible exact Below.refl _ _ | with_reducible exact hB.out | with_reducible refine Below.setCell ?_ (by first | (simp; done) | (simp; omega) | omega) _ | with_reducible refine below_drewN ?_ _ | with_reducible refine Below.drew ?_ | with_reducible refine Below.alloc ?_ (by first | (simp; done) | (simp; omega) | omega) _))⟩
        · repeat (first | go_values | go_skip | go_guarded | go_step | go_upon)
          exact bodyPost_ret (v := RV) (by rw [HV.out]; simp [results, Tryd.results35, go_sem, r0, r1, r2, r3, r4, r5, r6, hz]) rfl ⟨rfl, (by repeat' (first | with_reducible exact Below.refl _ _ | with_reducible exact hB.out | with_reducible refine Below.setCell ?_ (by first | (simp; done) | (simp; omega) | omega) _ | with_reducible refine below_drewN ?_ _ | with_reducible refine Below.drew ?_ | with_reducible refine Below.alloc ?_ (by first | (simp; done) | (simp; omega) | omega) _))⟩
    · rw [if_neg hA]
      obtain ⟨X2, hX2⟩ : ∃ X, X = tx f2 := ⟨_, rfl⟩
      have hbn : (X2.toList == [65]) = false := by
        rw [hX2, Lib.toList_data, tx_data, beq_eq_false_iff_ne]
        exact hA
      rw [← hX2] at k2
      clear hM hlt hA hX2 l1 l9 k1 k9
      go_enter Tryd.func35, Tryd.ntmps35
      repeat (first | go_values | go_skip | go_guarded | go_step | go_upon)
      exact bodyPost_ret (v := cvNo.val) (by simp [results, Tryd.results35, go_sem, cvNo, Cv.val]) rfl ⟨rfl, (by repeat' (first | with_reducible exact Below.refl _ _ | with_reducible refine Below.setCell ?_ (by first | (simp; done) | (simp; omega) | omega) _ | with_reducible refine below_drewN ?_ _ | with_reducible refine Below.drew ?_ | with_reducible refine Below.alloc ?_ (by first | (simp; done) | (simp; omega) | omega) _))⟩
end Go.Proofs.YthoilihokbakoaaDoor
