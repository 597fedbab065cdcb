/- The reference's Time of a sentence ZDA, walked. -/
import Derived.Test.YthoilihokbakoaaDoorQY
namespace Go.Proofs.YthoilihokbakoaaDoor
open Go Go.RowKit
theorem nu_decK (l : List UInt8) (K : Int) (hK : K ≤ 10) : nuB l K = decide (0 ≤ rnV l K) := by
  cases h : nuB l K
  · rw [rn_f h]; rfl
  · rw [rn_t h]; have := nu_bd l K hK; rw [decide_eq_true this.1]
theorem nu_rn {l : List UInt8} {K : Int} (h : 0 ≤ rnV l K) (hK : K ≤ 10) : nuB l K = true ∧ nuV l K = rnV l K := by
  have h1 : nuB l K = true := by rw [nu_decK l K hK, decide_eq_true h]
  exact ⟨h1, (rn_t h1).symm⟩
theorem nu_rf {l : List UInt8} {K : Int} (h : rnV l K < 0) (hK : K ≤ 10) : nuB l K = false := by rw [nu_decK l K hK, decide_eq_false (by omega)]
set_option maxHeartbeats 4000000 in
theorem rtime_zda (S : ByteArray) (ts : List (List UInt8)) (f0 f1 f2 f3 f4 : List UInt8) (RV : Value) (w : World) (hS : S.size ≤ 65536) (he : ckE S.data.toList = 0) (hts : flds S.data.toList = ts) (hb5 : 5 ≤ ts.length) (hb1 : ts.length ≤ 100000)
    (h0 : ts.getD 0 [] = f0) (h1 : ts.getD 1 [] = f1) (h2 : ts.getD 2 [] = f2) (h3 : ts.getD 3 [] = f3) (h4 : ts.getD 4 [] = f4) (hn5 : f0.length = 5) (hzd : f0.drop 2 = [90, 68, 65])
    (l1 : f1.length ≤ 100000) (l2 : f2.length ≤ 100000) (l3 : f3.length ≤ 100000) (l4 : f4.length ≤ 100000)
    (hY : tdB f1 = true → nuB f2 2 = true → nuB f3 2 = true → nuB f4 4 = true → RV = .tuple #[.agg #[.int .i64 (dE (nuV f4 4) (nuV f3 2) (nuV f2 2) (tdN f1 / 10000) (tdN f1 / 100 % 100) (tdN f1 % 100)), .int .u64 (dT (nuV f4 4) (nuV f3 2) (nuV f2 2) (tdN f1 / 10000) (tdN f1 / 100 % 100) (tdN f1 % 100) (tdF f1))], .int .i64 (dC (nuV f4 4) (nuV f3 2) (nuV f2 2) (tdN f1 / 10000) (tdN f1 / 100 % 100) (tdN f1 % 100))])
    (hN : (tdB f1 = false ∨ nuB f2 2 = false ∨ nuB f3 2 = false ∨ nuB f4 4 = false) → RV = noD 21) :
    Calls Tryd.prog 8 #[.string S] w fun e w' => e = .returned RV ∧ Below w.heap.size w w' := by
  have HC : Hid (∀ u : World, Calls Tryd.prog 6 #[.string S] u fun e w' => ∃ v, e = .returned (.tuple #[v, .int .i64 0]) ∧ Hid (OwT w' u.heap.size v ts ∧ Below u.heap.size u w')) := fun u => by
    have h := rcheck_ok S u (by omega) he
    rw [hts] at h
    exact h
  have HK : Hid (∀ u : World, Calls Tryd.prog 21 #[.string (tx f1)] u fun e w' => ∃ H N S F : Int, Hid (ClP f1 H N S F) ∧ e = .returned (.tuple #[.agg #[.int .i64 0, .int .i64 0, .int .i64 0, .int .i64 H, .int .i64 N, .int .i64 S, .int .u32 F], .bool (tdB f1)]) ∧ Below u.heap.size u w') := fun u => by
    have h := rclock_any (tx f1) u (by rw [tx_z]; exact l1)
    rw [tx_data] at h
    exact h
  have H2 : Hid (∀ u : World, Calls Tryd.prog 22 #[.string (tx f2), .int .i64 2] u fun e w' => e = .returned (.int .i64 (rnV f2 2)) ∧ w' = u) := fun u => by
    have h := rnumber_any (tx f2) 2 u (by rw [tx_z]; omega) (by decide)
    rw [tx_data] at h
    exact h
  have H3 : Hid (∀ u : World, Calls Tryd.prog 22 #[.string (tx f3), .int .i64 2] u fun e w' => e = .returned (.int .i64 (rnV f3 2)) ∧ w' = u) := fun u => by
    have h := rnumber_any (tx f3) 2 u (by rw [tx_z]; omega) (by decide)
    rw [tx_data] at h
    exact h
  have H4 : Hid (∀ u : World, Calls Tryd.prog 22 #[.string (tx f4), .int .i64 4] u fun e w' => e = .returned (.int .i64 (rnV f4 4)) ∧ w' = u) := fun u => by
    have h := rnumber_any (tx f4) 4 u (by rw [tx_z]; omega) (by decide)
    rw [tx_data] at h
    exact h
  have HY : Hid (tdB f1 = true → 0 ≤ rnV f2 2 → 0 ≤ rnV f3 2 → 0 ≤ rnV f4 4 → RV = .tuple #[.agg #[.int .i64 (dE (rnV f4 4) (rnV f3 2) (rnV f2 2) (tdN f1 / 10000) (tdN f1 / 100 % 100) (tdN f1 % 100)), .int .u64 (dT (rnV f4 4) (rnV f3 2) (rnV f2 2) (tdN f1 / 10000) (tdN f1 / 100 % 100) (tdN f1 % 100) (tdF f1))], .int .i64 (dC (rnV f4 4) (rnV f3 2) (rnV f2 2) (tdN f1 / 10000) (tdN f1 / 100 % 100) (tdN f1 % 100))]) := by
    intro a1 a2 a3 a4
    have b2 := nu_rn a2 (by decide)
    have b3 := nu_rn a3 (by decide)
    have b4 := nu_rn a4 (by decide)
    have h := hY a1 b2.1 b3.1 b4.1
    rw [b2.2, b3.2, b4.2] at h
    exact h
  have HN : Hid ((tdB f1 = false ∨ rnV f2 2 < 0 ∨ rnV f3 2 < 0 ∨ rnV f4 4 < 0) → RV = noD 21) := by
    intro a
    refine hN ?_
    rcases a with a | a | a | a
    · exact .inl a
    · exact .inr (.inl (nu_rf a (by decide)))
    · exact .inr (.inr (.inl (nu_rf a (by decide))))
    · exact .inr (.inr (.inr (nu_rf a (by decide))))
  obtain ⟨d20, d21⟩ := rn_bd f2 2 (by decide)
  obtain ⟨d30, d31⟩ := rn_bd f3 2 (by decide)
  obtain ⟨d40, d41⟩ := rn_bd f4 4 (by decide)
  clear he hts hS hY hN l1 l2 l3 l4
  go_enter Tryd.func8, Tryd.ntmps8
  go_wp2_with fail
  refine (HC.out _).mono ?_
  rintro e w1 ⟨v, rfl, hh⟩
  obtain ⟨hcl, hfr⟩ := bcell hh.out.2
  have hz1 : w.heap.size + 1 < w1.heap.size := by have := hh.out.2.size; simp at this; omega
  have hB1 : Hid (Below w.heap.size w w1) := by
    refine Below.trans ?_ (hh.out.2.mono (by simp; omega))
    exact (by repeat' (first | with_reducible exact Below.refl _ _ | with_reducible refine Below.setCell ?_ (by first | (simp; done) | (simp; omega) | omega) _ | with_reducible refine below_drewN ?_ _ | with_reducible refine Below.drew ?_ | with_reducible refine Below.alloc ?_ (by first | (simp; done) | (simp; omega) | omega) _))
  obtain ⟨g, o, cap, rfl, hg, hc⟩ := hh.out.1.rt.rowD (by omega)
  have r0 : w1.cell? ⟨w.heap.size, 0, none⟩ = some (.int .i64 0) := by rw [hcl _ _ (by simp; omega)]; simp
  have r1 : w1.cell? ⟨w.heap.size, 1, none⟩ = some (.int .u64 0) := by rw [hcl _ _ (by simp; omega)]; simp
  have n0 : w1.cell? ⟨w.heap.size + 1, 0, none⟩ = some (.int .i64 0) := by rw [hcl _ _ (by simp)]; simp
  have n1 : w1.cell? ⟨w.heap.size + 1, 1, none⟩ = some (.int .u64 0) := by rw [hcl _ _ (by simp)]; simp
  have rf : ∀ o, w1.frozen? ⟨w.heap.size, o, none⟩ = false := fun o => by rw [hfr _ _ (by simp; omega)]; simp
  have hz0 : w.heap.size < w1.heap.size := by omega
  have k0 := hc 0 (by omega)
  rw [Nat.add_zero, h0] at k0
  have k1 := hc 1 (by omega)
  rw [h1] at k1
  have k2 := hc 2 (by omega)
  rw [h2] at k2
  have k3 := hc 3 (by omega)
  rw [h3] at k3
  have k4 := hc 4 (by omega)
  rw [h4] at k4
  obtain ⟨L, hL⟩ : ∃ L, L = ts.length := ⟨_, rfl⟩
  rw [← hL] at hb5 hb1 ⊢
  obtain ⟨X, hX⟩ : ∃ X, X = tx f0 := ⟨_, rfl⟩
  have hs : X.size = 5 := by rw [hX]; exact hn5
  have e1 : ((X.size : Int) != 5) = false := by rw [hs]; rfl
  have e2 : 2 ≤ (X.size : Int) := by omega
  have e4 : (X.size : Int) ≤ 5 := by omega
  obtain ⟨E, hE⟩ : ∃ E, X.extract 2 X.size = E := ⟨_, rfl⟩
  have eX : E.toList = f0.drop 2 := by
    rw [← hE, Lib.toList_data, hX, extract_tx, tx_data, tx_data, List.take_of_length_le (by rw [List.length_drop, tx_z]; omega)]
  rw [← hX] at k0
  have hLi : 5 ≤ (L : Int) := by omega
  have hLj : (L : Int) ≤ 100000 := by omega
  have b1 : (E.toList == [90, 68, 65]) = true := by rw [eX, hzd]; rfl
  clear hX hs eX hL hc hcl hfr hh HC hn5 hzd h0 h1 h2 h3 h4 hb5 hb1
  go_wp2_with fail
  refine (HK.out _).mono ?_
  rintro e w2 ⟨H, N, Se, F, hcp, rfl, hb2⟩
  have hz2 : w.heap.size + 1 < w2.heap.size := by have := hb2.size; omega
  have hz3 : w.heap.size < w2.heap.size := by omega
  have hgz : g < w2.heap.size := by have := hb2.size; omega
  have hgn : g ≠ w2.heap.size := by omega
  have hrn : w.heap.size ≠ w2.heap.size := by omega
  have hnn : w.heap.size + 1 ≠ w2.heap.size := by omega
  have hB2 : Hid (Below w.heap.size w w2) := hB1.out.trans (hb2.mono (by omega))
  have s0 : w2.cell? ⟨w.heap.size, 0, none⟩ = some (.int .i64 0) := (hb2.cell (p := ⟨w.heap.size, 0, none⟩) hz0).trans r0
  have s1 : w2.cell? ⟨w.heap.size, 1, none⟩ = some (.int .u64 0) := (hb2.cell (p := ⟨w.heap.size, 1, none⟩) hz0).trans r1
  have m0 : w2.cell? ⟨w.heap.size + 1, 0, none⟩ = some (.int .i64 0) := (hb2.cell (p := ⟨w.heap.size + 1, 0, none⟩) hz1).trans n0
  have m1 : w2.cell? ⟨w.heap.size + 1, 1, none⟩ = some (.int .u64 0) := (hb2.cell (p := ⟨w.heap.size + 1, 1, none⟩) hz1).trans n1
  have sf : ∀ o, w2.frozen? ⟨w.heap.size, o, none⟩ = false := fun o => (hb2.frozen (p := ⟨w.heap.size, o, none⟩) hz0).trans (rf o)
  have j0 : w2.cell? ⟨g, o, none⟩ = some (.string X) := (hb2.cell (p := ⟨g, o, none⟩) hg).trans k0
  have j2 : w2.cell? ⟨g, o + 2, none⟩ = some (.string (tx f2)) := (hb2.cell (p := ⟨g, o + 2, none⟩) hg).trans k2
  have j3 : w2.cell? ⟨g, o + 3, none⟩ = some (.string (tx f3)) := (hb2.cell (p := ⟨g, o + 3, none⟩) hg).trans k3
  have j4 : w2.cell? ⟨g, o + 4, none⟩ = some (.string (tx f4)) := (hb2.cell (p := ⟨g, o + 4, none⟩) hg).trans k4
  clear hb2 r0 r1 n0 n1 rf hB1 hz0 hz1 hg HK k0 k1 k2 k3 k4
  have HY2 : Hid (tdB f1 = true → 0 ≤ rnV f2 2 → 0 ≤ rnV f3 2 → 0 ≤ rnV f4 4 → RV = .tuple #[.agg #[.int .i64 (dE (rnV f4 4) (rnV f3 2) (rnV f2 2) H N Se), .int .u64 (dT (rnV f4 4) (rnV f3 2) (rnV f2 2) H N Se F)], .int .i64 (dC (rnV f4 4) (rnV f3 2) (rnV f2 2) H N Se)]) := by
    intro a1 a2 a3 a4
    have h := HY.out a1 a2 a3 a4
    obtain ⟨x1, x2, x3, x4⟩ := hcp.out.2.2 a1
    rw [← x1, ← x2, ← x3, ← x4] at h
    exact h
  have F0 := hcp.out.1
  have F1 := hcp.out.2.1
  clear HY hcp
  generalize tdB f1 = tb at *
  generalize rnV f2 2 = D at *
  generalize rnV f3 2 = Mo at *
  generalize rnV f4 4 = Y at *
  generalize tx f2 = X2 at *
  generalize tx f3 = X3 at *
  generalize tx f4 = X4 at *
  have HD : Hid (∀ u : World, Calls Tryd.prog 23 #[.agg #[.int .i64 Y, .int .i64 Mo, .int .i64 D, .int .i64 H, .int .i64 N, .int .i64 Se, .int .u32 F]] u fun e w' => e = .returned (.tuple #[.agg #[.int .i64 (dE Y Mo D H N Se), .int .u64 (dT Y Mo D H N Se F)], .int .i64 (dC Y Mo D H N Se)]) ∧ Below u.heap.size u w') := fun u => rtoDate_any Y Mo D H N Se F u F0 F1
  generalize dE Y Mo D H N Se = dEE at *
  generalize dT Y Mo D H N Se F = dTT at *
  generalize dC Y Mo D H N Se = dCC at *
  go_wp2_with fail
  refine (H2.out _).mono ?_
  rintro e w4 ⟨rfl, hw⟩
  rw [hw]
  clear hw
  go_wp2_with fail
  refine (H3.out _).mono ?_
  rintro e w4 ⟨rfl, hw⟩
  rw [hw]
  clear hw
  go_wp2_with fail
  refine (H4.out _).mono ?_
  rintro e w4 ⟨rfl, hw⟩
  rw [hw]
  clear hw
  clear H2 H3 H4
  by_cases hno : tb = false ∨ D < 0 ∨ Mo < 0 ∨ Y < 0
  · have hRV := HN.out hno
    clear HY2 HN HD
    simp only []
    rcases (by
      rcases hno with h | h
      · exact .inl h
      · cases tb
        · exact .inl rfl
        · refine .inr ?_
          by_cases a : D < 0
          · exact .inl ⟨rfl, a⟩
          · by_cases b : Mo < 0
            · exact .inr (.inl ⟨rfl, by omega, b⟩)
            · exact .inr (.inr ⟨rfl, by omega, by omega, by omega⟩) : tb = false ∨ (tb = true ∧ D < 0) ∨ (tb = true ∧ 0 ≤ D ∧ Mo < 0) ∨ (tb = true ∧ 0 ≤ D ∧ 0 ≤ Mo ∧ Y < 0)) with h | ⟨h, h'⟩ | ⟨h, h', h''⟩ | ⟨h, h', h'', h3⟩
    all_goals
      clear hno
      subst h
      repeat (first | go_values | go_skip | go_guarded | go_step | go_upon)
      exact bodyPost_ret (v := RV) (by rw [hRV]; simp [results, Tryd.results8, go_sem, noD, s0, s1, hz3]) rfl ⟨rfl, (by repeat' (first | with_reducible exact Below.refl _ _ | with_reducible exact hB2.out | with_reducible refine Below.setCell ?_ (by first | (simp; done) | (simp; omega) | omega) _ | with_reducible refine below_drewN ?_ _ | with_reducible refine Below.drew ?_ | with_reducible refine Below.alloc ?_ (by first | (simp; done) | (simp; omega) | omega) _))⟩
  · have p1 : tb = true := by cases tb <;> simp_all
    have p2 : 0 ≤ D := by omega
    have p3 : 0 ≤ Mo := by omega
    have p4 : 0 ≤ Y := by omega
    have hRV := HY2.out p1 p2 p3 p4
    subst p1
    clear HY2 HN hno
    go_wp2_with fail
    refine (HD.out _).mono ?_
    rintro e w3 ⟨rfl, hb⟩
    have hB3 : Hid (Below w.heap.size w w3) := by
      refine Below.trans ?_ (hb.mono (by simp; omega))
      exact (by repeat' (first | with_reducible exact Below.refl _ _ | with_reducible exact hB2.out | with_reducible refine Below.setCell ?_ (by first | (simp; done) | (simp; omega) | omega) _ | with_reducible refine below_drewN ?_ _ | with_reducible refine Below.drew ?_ | with_reducible refine Below.alloc ?_ (by first | (simp; done) | (simp; omega) | omega) _))
    obtain ⟨hcl, hfr⟩ := bcell hb
    have hz5 : ∀ o : Obj, w.heap.size < (w2.alloc o).heap.size := fun o => by simp; omega
    have t0 : w3.cell? ⟨w.heap.size, 0, none⟩ = some (.int .i64 0) := by rw [hcl w.heap.size 0 (hz5 _), World.cell?_alloc_past _ _ _ hz3]; exact s0
    have t1 : w3.cell? ⟨w.heap.size, 1, none⟩ = some (.int .u64 0) := by rw [hcl w.heap.size 1 (hz5 _), World.cell?_alloc_past _ _ _ hz3]; exact s1
    have tf : ∀ o, w3.frozen? ⟨w.heap.size, o, none⟩ = false := fun o => by rw [hfr w.heap.size o (hz5 _), World.frozen?_alloc_past _ _ _ hz3]; exact sf o
    clear s0 s1 sf hcl hfr hb hB2 hz5
    simp only []
    repeat (first | go_values | go_skip | go_guarded | go_step | go_upon)
    exact bodyPost_ret (v := RV) (by rw [hRV]; simp [results, Tryd.results8, go_sem, t0, t1]) rfl ⟨rfl, (by repeat' (first | with_reducible exact Below.refl _ _ | with_reducible exact hB3.out | with_reducible refine Below.setCell ?_ (by first | (simp; done) | (simp; omega) | omega) _ | with_reducible refine below_drewN ?_ _ | with_reducible refine Below.drew ?_ | with_reducible refine Below.alloc ?_ (by first | (simp; done) | (simp; omega) | omega) _))⟩
end Go.Proofs.YthoilihokbakoaaDoor
