/- The law NmeaWrites, walked. -/
import Derived.Test.YthoilihokbakoaaDoorQF
import Derived.Test.YthoilihokbakoaaDoorQL
import Derived.Test.YthoilihokbakoaaDoorQM
namespace Go.Proofs.YthoilihokbakoaaDoor
open Go Go.RowKit
/-- what is written is read -/
theorem time_written (era t y m d h n s M : Int) (w : World) (t0 : 0 ≤ t) (t1 : t < 18446744073709551616) (hd : Cal.Day y m d) (ht : Cal.Time h n s) (hs : Cal.sec y m d h n s = ds era t) (hM : w.cell? ⟨0, 0, none⟩ = some (.int .i64 M)) :
    Calls Tryd.prog 7 #[.string (tx (sealed (bodyL y m d h n s (t % 4294967296))))] w fun e w' => ∃ T : Int, Hid (0 ≤ T ∧ T ≤ t ∧ t - T < 4296) ∧ e = .returned (.tuple #[.agg #[.int .i64 era, .int .u64 T], .int .i64 0]) ∧ Below w.heap.size w w' := by
  obtain ⟨f, hf⟩ : ∃ f, f = t % 4294967296 := ⟨_, rfl⟩
  have f0 : 0 ≤ f := by omega
  have f1 : f < 4294967296 := by omega
  rw [← hf]
  obtain ⟨u0, u1, l1, l2⟩ := frac_lost f f0 f1
  have HD := hd
  have HT := ht
  obtain ⟨y0, y1, m0, m1, d0, d1⟩ := hd
  have hdim := Cal.dim_bd y m
  obtain ⟨h0, h1, n0, n1, s0, s1⟩ := ht
  obtain ⟨a1, a2, a3⟩ := td_dg (h * 10000 + n * 100 + s) (f * 1000000 / 4294967296) (by omega) (by omega) u0 u1
  obtain ⟨b1, b2⟩ := dg_nu 2 2 d rfl (by omega) (by omega)
  obtain ⟨c1, c2⟩ := dg_nu 2 2 m rfl (by omega) (by omega)
  obtain ⟨e1, e2⟩ := dg_nu 4 4 y rfl (by omega) (by omega)
  have hx := time_zda (tx (sealed (bodyL y m d h n s f))) _ _ _ _ _ _ M w (by rw [tx_z, sealed_len, bodyL_len]; decide) (by rw [tx_data]; exact ckE_sealed _) (by rw [tx_data]; exact flds_body y m d h n s f) (by decide) (by decide) (by decide) (by simp [dg_len]) (by simp [dg_len]) (by simp [dg_len]) (by simp [dg_len]) hM (by rw [a1, b1, c1, e1]; rfl)
  rw [a2, a3, b2, c2, e2, show (h * 10000 + n * 100 + s) / 10000 = h from by omega, show (h * 10000 + n * 100 + s) / 100 % 100 = n from by omega, show (h * 10000 + n * 100 + s) % 100 = s from by omega] at hx
  have hds : Cal.sec y m d h n s - 59926608000 = era * 4294967296 + t / 4294967296 := by rw [hs]; unfold ds; omega
  have eE : dE y m d h n s = era := by unfold dE; rw [okD_t HD HT, if_pos rfl, hds]; omega
  have eC : dC y m d h n s = 0 := by unfold dC; rw [okD_t HD HT, if_pos rfl]
  have eT : dT y m d h n s (f * 1000000 / 4294967296 * 4294967296 / 1000000) = t / 4294967296 * 4294967296 + f * 1000000 / 4294967296 * 4294967296 / 1000000 := by unfold dT; rw [okD_t HD HT, if_pos rfl, hds]; omega
  rw [eE, eC, eT] at hx
  refine hx.mono ?_
  rintro e w' ⟨rfl, hb⟩
  refine ⟨_, ?_, rfl, hb⟩
  show _ ∧ _ ∧ _
  have F0 : 0 ≤ f * 1000000 / 4294967296 * 4294967296 / 1000000 := by omega
  generalize f * 1000000 / 4294967296 * 4294967296 / 1000000 = F at *
  omega
set_option maxHeartbeats 2000000 in
theorem NmeaWrites_core (era t M : Int) (w : World) (t0 : 0 ≤ t) (t1 : t < 18446744073709551616) (hM : w.cell? ⟨0, 0, none⟩ = some (.int .i64 M)) :
    Calls Tryd.prog 4 #[.agg #[.int .i64 era, .int .u64 t]] w fun e w' => e = .returned (.bool true) ∧ Below w.heap.size w w' := by
  by_cases hno : ds era t < 0 ∨ 66269577600 ≤ ds era t
  · have H1 : Hid (∀ u, Calls Tryd.prog 12 #[.agg #[.int .i64 era, .int .u64 t]] u fun e w' => e = .returned (.tuple #[.string ⟨#[]⟩, .int .i64 20]) ∧ Below u.heap.size u w') := fun u => write_no era t u t0 t1 hno
    have H2 : Hid (∀ u, Calls Tryd.prog 13 #[.agg #[.int .i64 era, .int .u64 t]] u fun e w' => e = .returned (.tuple #[.string ⟨#[]⟩, .int .i64 20]) ∧ Below u.heap.size u w') := fun u => rwrite_no era t u t0 t1 hno
    have H3 : Hid (∀ u, Calls Tryd.prog 14 #[.agg #[.int .i64 era, .int .u64 t]] u fun e w' => e = .returned noC ∧ Below u.heap.size u w') := fun u => rofDate_no era t u t0 t1 hno
    unfold noC at H3
    clear hno hM
    go_enter Tryd.func4, Tryd.ntmps4
    go_wp2_with fail
    refine (H1.out _).mono ?_
    rintro e w1 ⟨rfl, hb1⟩
    have c0 := (hb1.cell (p := ⟨w.heap.size, 0, none⟩) (by simp)).trans (World.cell?_alloc_new w _ _ 0)
    have c1 := (hb1.cell (p := ⟨w.heap.size, 1, none⟩) (by simp)).trans (World.cell?_alloc_new w _ _ 1)
    simp at c0 c1
    go_wp2_with fail
    refine (H2.out _).mono ?_
    rintro e w2 ⟨rfl, hb2⟩
    have h1 := hb1.size
    simp at h1
    have HB : Hid (Below w.heap.size w w2) := (((Below.refl _ _).alloc (Nat.le_refl _) _).trans (hb1.mono (by simp))).trans (hb2.mono (by omega))
    have q0 : w2.cell? ⟨w.heap.size, 0, none⟩ = some (.int .i64 era) := (hb2.cell (p := ⟨w.heap.size, 0, none⟩) (by show w.heap.size < _; omega)).trans c0
    have q1 : w2.cell? ⟨w.heap.size, 1, none⟩ = some (.int .u64 t) := (hb2.cell (p := ⟨w.heap.size, 1, none⟩) (by show w.heap.size < _; omega)).trans c1
    clear hb1 hb2 c0 c1 h1
    go_wp2_with fail
    refine (H3.out _).mono ?_
    rintro e w3 ⟨rfl, hb3⟩
    have HB3 : Hid (Below w.heap.size w w3) := HB.out.trans (hb3.mono (by have := HB.out.size; omega))
    clear hb3 q0 q1
    go_wp2
    go_ret
    exact ⟨rfl, HB3.out.alloc HB3.out.size _⟩
  · have hy0 : 0 ≤ ds era t := by omega
    have hy1 : ds era t < 66269577600 := by omega
    have hlt : 0 < w.heap.size := World.block_lt_of_cell? _ _ hM
    have H1 : Hid (∀ u, Calls Tryd.prog 12 #[.agg #[.int .i64 era, .int .u64 t]] u fun e w' => ∃ y m d h n s : Int, Hid (Cal.Day y m d ∧ Cal.Time h n s ∧ Cal.sec y m d h n s = ds era t) ∧ e = .returned (.tuple #[.string (tx (sealed (bodyL y m d h n s (t % 4294967296)))), .int .i64 0]) ∧ Below u.heap.size u w') := fun u => write_yes era t u t0 t1 hy0 hy1
    have H2 : Hid (∀ u, Calls Tryd.prog 13 #[.agg #[.int .i64 era, .int .u64 t]] u fun e w' => ∃ y m d h n s : Int, Hid (Cal.Day y m d ∧ Cal.Time h n s ∧ Cal.sec y m d h n s = ds era t) ∧ e = .returned (.tuple #[.string (tx (sealed (bodyL y m d h n s (t % 4294967296)))), .int .i64 0]) ∧ Below u.heap.size u w') := fun u => rwrite_yes era t u t0 t1 hy0 hy1
    have H3 : Hid (∀ (u : World) (y m d h n s : Int), Below w.heap.size w u → (Cal.Day y m d ∧ Cal.Time h n s ∧ Cal.sec y m d h n s = ds era t) → Calls Tryd.prog 7 #[.string (tx (sealed (bodyL y m d h n s (t % 4294967296))))] u fun e w' => ∃ T : Int, Hid (0 ≤ T ∧ T ≤ t ∧ t - T < 4296) ∧ e = .returned (.tuple #[.agg #[.int .i64 era, .int .u64 T], .int .i64 0]) ∧ Below u.heap.size u w') := fun u y m d h n s hu hh => time_written era t y m d h n s M u t0 t1 hh.1 hh.2.1 hh.2.2 ((hu.cell (p := ⟨0, 0, none⟩) hlt).trans hM)
    clear hno hy0 hy1 hM hlt
    go_enter Tryd.func4, Tryd.ntmps4
    go_wp2_with fail
    refine (H1.out _).mono ?_
    rintro e w1 ⟨y, m, d, h, n, s, hq, rfl, hb1⟩
    have c0 := (hb1.cell (p := ⟨w.heap.size, 0, none⟩) (by simp)).trans (World.cell?_alloc_new w _ _ 0)
    have c1 := (hb1.cell (p := ⟨w.heap.size, 1, none⟩) (by simp)).trans (World.cell?_alloc_new w _ _ 1)
    simp at c0 c1
    go_wp2_with fail
    refine (H2.out _).mono ?_
    rintro e w2 ⟨y2, m2, d2, h2, n2, s2, hq2, rfl, hb2⟩
    have h1 := hb1.size
    simp at h1
    have HB : Hid (Below w.heap.size w w2) := (((Below.refl _ _).alloc (Nat.le_refl _) _).trans (hb1.mono (by simp))).trans (hb2.mono (by omega))
    have q0 : w2.cell? ⟨w.heap.size, 0, none⟩ = some (.int .i64 era) := (hb2.cell (p := ⟨w.heap.size, 0, none⟩) (by show w.heap.size < _; omega)).trans c0
    have q1 : w2.cell? ⟨w.heap.size, 1, none⟩ = some (.int .u64 t) := (hb2.cell (p := ⟨w.heap.size, 1, none⟩) (by show w.heap.size < _; omega)).trans c1
    have hz2 : w.heap.size < w2.heap.size := by have := hb2.size; omega
    have HT : Hid (∀ u : World, Below w.heap.size w u → Calls Tryd.prog 7 #[.string (tx (sealed (bodyL y m d h n s (t % 4294967296))))] u fun e w' => ∃ T : Int, Hid (0 ≤ T ∧ T ≤ t ∧ t - T < 4296) ∧ e = .returned (.tuple #[.agg #[.int .i64 era, .int .u64 T], .int .i64 0]) ∧ Below u.heap.size u w') := fun u hu => H3.out u y m d h n s hu hq.out
    obtain ⟨rfl, rfl, rfl, rfl, rfl, rfl⟩ := Cal.sec_one hq.out.1 hq.out.2.1 hq2.out.1 hq2.out.2.1 (hq.out.2.2.trans hq2.out.2.2.symm)
    clear hb1 hb2 c0 c1 h1 H1 H2 H3 hq hq2
    generalize tx (sealed (bodyL y m d h n s (t % 4294967296))) = S at *
    go_wp2_with fail
    refine (HT.out _ (by repeat' (first | with_reducible exact Below.refl _ _ | with_reducible exact HB.out | with_reducible refine Below.setCell ?_ (by first | (simp; done) | (simp; omega) | omega) _ | with_reducible refine below_drewN ?_ _ | with_reducible refine Below.drew ?_ | with_reducible refine Below.alloc ?_ (by first | (simp; done) | (simp; omega) | omega) _))).mono ?_
    rintro e w3 ⟨T, hT, rfl, hb3⟩
    obtain ⟨T0, T1, T2⟩ := hT.out
    have HB3 : Hid (Below w.heap.size w w3) := HB.out.trans (hb3.mono (by omega))
    have p0 : w3.cell? ⟨w.heap.size, 0, none⟩ = some (.int .i64 era) := (hb3.cell (p := ⟨w.heap.size, 0, none⟩) hz2).trans q0
    have p1 : w3.cell? ⟨w.heap.size, 1, none⟩ = some (.int .u64 t) := (hb3.cell (p := ⟨w.heap.size, 1, none⟩) hz2).trans q1
    have hz3 : w.heap.size < w3.heap.size := by have := hb3.size; omega
    clear hb3 q0 q1 hz2 hT HB HT
    go_wp2_with fail
    go_ret
    exact ⟨rfl, HB3.out.alloc HB3.out.size _⟩
theorem u64_wfq {n : Int} (h : (Lit.int .u64 n).wf = true) : 0 ≤ n ∧ n < 18446744073709551616 := by
  have e1 : IntKind.u64.min = 0 := by decide
  have e2 : IntKind.u64.max = 18446744073709551615 := by decide
  simp [Lit.wf, e1, e2] at h
  omega
theorem NmeaWrites_row (era t : Int) (w : World) (M : Int) (_ : (Lit.int .i64 era).wf = true) (ht : (Lit.int .u64 t).wf = true) (hM : w.cell? ⟨0, 0, none⟩ = some (.int .i64 M)) :
    Calls Tryd.prog 4 #[.agg #[.int .i64 era, .int .u64 t]] w fun e w' => e = .returned (.bool true) ∧ Below w.heap.size w w' :=
  NmeaWrites_core era t M w (u64_wfq ht).1 (u64_wfq ht).2 hM
end Go.Proofs.YthoilihokbakoaaDoor
