/- What Unfold of package stamp and the reference's return, and that the laws StampUnfolds and StampEras return true. -/
import Derived.Test.YtifaneckfnjgiaaStU
import Derived.WalkKit
import Derived.WalkSpells
import Derived.WalkLawsBesides
import Derived.Handy
import Derived.Below
import Derived.Deep.RegionHeld3
namespace Go.Proofs.Ytifaneckfnjgiaa
open Go.RowKit
/-- the era of the date with stamp t that lies nearest to the date with era e and stamp p -/
def uf (t e p : Int) : Int := if p ≤ t ∧ 9223372036854775808 ≤ t - p then e - 1 else if t < p ∧ 9223372036854775808 < p - t then e + 1 else e
theorem sn_neg (t p : Int) (t0 : 0 ≤ t) (t1 : t < 18446744073709551616) (p0 : 0 ≤ p) (p1 : p < 18446744073709551616) : sn t p < 0 ↔ (p ≤ t ∧ 9223372036854775808 ≤ t - p) ∨ (t < p ∧ p - t ≤ 9223372036854775808) := by
  unfold sn Fx.cl; omega
set_option maxHeartbeats 1000000 in
theorem unfold_any (t e p : Int) (w : World) (t0 : 0 ≤ t) (t1 : t < 18446744073709551616) (p0 : 0 ≤ p) (p1 : p < 18446744073709551616) (e0 : -4611686018427387905 ≤ e) (e1 : e ≤ 4611686018427387905) :
    Calls Try.prog 19 #[.int .u64 t, .agg #[.int .i64 e, .int .u64 p]] w fun r w' => r = .returned (.agg #[.int .i64 (uf t e p), .int .u64 t]) ∧ Below w.heap.size w w' := by
  have hn := sn_neg t p t0 t1 p0 p1
  have HN : Hid (sn t p < 0 ↔ (p ≤ t ∧ 9223372036854775808 ≤ t - p) ∨ (t < p ∧ p - t ≤ 9223372036854775808)) := hn
  clear hn
  by_cases hs : sn t p < 0
  · by_cases hp : p < t
    · have HU : Hid (uf t e p = e - 1) := by
        show _ = _
        have h1 := HN.out
        clear HN
        unfold uf
        repeat' split
        all_goals omega
      go_enter Try.func19, Try.ntmps19
      go_wp2_with fail
      refine (since_any _ _ _).mono ?_
      rintro r w1 ⟨rfl, rfl⟩
      go_wp2
      rw [HU.out]
      exact bodyPost_ret (v := .agg #[.int .i64 (e - 1), .int .u64 t]) (by simp [results, Try.results19, go_sem]) rfl ⟨rfl, (by repeat' (first | with_reducible exact Below.refl _ _ | with_reducible refine Below.setCell ?_ (by first | (simp; done) | (simp; omega) | omega) _ | with_reducible refine below_drewN ?_ _ | with_reducible refine Below.drew ?_ | with_reducible refine Below.alloc ?_ (by first | (simp; done) | (simp; omega) | omega) _))⟩
    · have HU : Hid (uf t e p = e) := by
        show _ = _
        have h1 := HN.out
        clear HN
        unfold uf
        repeat' split
        all_goals omega
      go_enter Try.func19, Try.ntmps19
      go_wp2_with fail
      refine (since_any _ _ _).mono ?_
      rintro r w1 ⟨rfl, rfl⟩
      go_wp2
      rw [HU.out]
      exact bodyPost_ret (v := .agg #[.int .i64 (e), .int .u64 t]) (by simp [results, Try.results19, go_sem]) rfl ⟨rfl, (by repeat' (first | with_reducible exact Below.refl _ _ | with_reducible refine Below.setCell ?_ (by first | (simp; done) | (simp; omega) | omega) _ | with_reducible refine below_drewN ?_ _ | with_reducible refine Below.drew ?_ | with_reducible refine Below.alloc ?_ (by first | (simp; done) | (simp; omega) | omega) _))⟩
  · by_cases hp : t < p
    · have HU : Hid (uf t e p = e + 1) := by
        show _ = _
        have h1 := HN.out
        clear HN
        unfold uf
        repeat' split
        all_goals omega
      go_enter Try.func19, Try.ntmps19
      go_wp2_with fail
      refine (since_any _ _ _).mono ?_
      rintro r w1 ⟨rfl, rfl⟩
      go_wp2
      rw [HU.out]
      exact bodyPost_ret (v := .agg #[.int .i64 (e + 1), .int .u64 t]) (by simp [results, Try.results19, go_sem]) rfl ⟨rfl, (by repeat' (first | with_reducible exact Below.refl _ _ | with_reducible refine Below.setCell ?_ (by first | (simp; done) | (simp; omega) | omega) _ | with_reducible refine below_drewN ?_ _ | with_reducible refine Below.drew ?_ | with_reducible refine Below.alloc ?_ (by first | (simp; done) | (simp; omega) | omega) _))⟩
    · have HU : Hid (uf t e p = e) := by
        show _ = _
        have h1 := HN.out
        clear HN
        unfold uf
        repeat' split
        all_goals omega
      go_enter Try.func19, Try.ntmps19
      go_wp2_with fail
      refine (since_any _ _ _).mono ?_
      rintro r w1 ⟨rfl, rfl⟩
      go_wp2
      rw [HU.out]
      exact bodyPost_ret (v := .agg #[.int .i64 (e), .int .u64 t]) (by simp [results, Try.results19, go_sem]) rfl ⟨rfl, (by repeat' (first | with_reducible exact Below.refl _ _ | with_reducible refine Below.setCell ?_ (by first | (simp; done) | (simp; omega) | omega) _ | with_reducible refine below_drewN ?_ _ | with_reducible refine Below.drew ?_ | with_reducible refine Below.alloc ?_ (by first | (simp; done) | (simp; omega) | omega) _))⟩
set_option maxHeartbeats 1000000 in
theorem runfold_any (t e p : Int) (w : World) (t0 : 0 ≤ t) (t1 : t < 18446744073709551616) (p0 : 0 ≤ p) (p1 : p < 18446744073709551616) (e0 : -4611686018427387905 ≤ e) (e1 : e ≤ 4611686018427387905) :
    Calls Try.prog 20 #[.int .u64 t, .agg #[.int .i64 e, .int .u64 p]] w fun r w' => r = .returned (.agg #[.int .i64 (uf t e p), .int .u64 t]) ∧ Below w.heap.size w w' := by
  by_cases hp : p ≤ t
  · by_cases hs : 9223372036854775808 ≤ t - p
    · have HU : Hid (uf t e p = e - 1) := by
        show _ = _
        unfold uf
        repeat' split
        all_goals omega
      go_enter Try.func20, Try.ntmps20
      go_wp2
      rw [HU.out]
      exact bodyPost_ret (v := .agg #[.int .i64 (e - 1), .int .u64 t]) (by simp [results, Try.results20, go_sem]) rfl ⟨rfl, (by repeat' (first | with_reducible exact Below.refl _ _ | with_reducible refine Below.setCell ?_ (by first | (simp; done) | (simp; omega) | omega) _ | with_reducible refine below_drewN ?_ _ | with_reducible refine Below.drew ?_ | with_reducible refine Below.alloc ?_ (by first | (simp; done) | (simp; omega) | omega) _))⟩
    · have HU : Hid (uf t e p = e) := by
        show _ = _
        unfold uf
        repeat' split
        all_goals omega
      go_enter Try.func20, Try.ntmps20
      go_wp2
      rw [HU.out]
      exact bodyPost_ret (v := .agg #[.int .i64 (e), .int .u64 t]) (by simp [results, Try.results20, go_sem]) rfl ⟨rfl, (by repeat' (first | with_reducible exact Below.refl _ _ | with_reducible refine Below.setCell ?_ (by first | (simp; done) | (simp; omega) | omega) _ | with_reducible refine below_drewN ?_ _ | with_reducible refine Below.drew ?_ | with_reducible refine Below.alloc ?_ (by first | (simp; done) | (simp; omega) | omega) _))⟩
  · by_cases hs : 9223372036854775808 < p - t
    · have HU : Hid (uf t e p = e + 1) := by
        show _ = _
        unfold uf
        repeat' split
        all_goals omega
      go_enter Try.func20, Try.ntmps20
      go_wp2
      rw [HU.out]
      exact bodyPost_ret (v := .agg #[.int .i64 (e + 1), .int .u64 t]) (by simp [results, Try.results20, go_sem]) rfl ⟨rfl, (by repeat' (first | with_reducible exact Below.refl _ _ | with_reducible refine Below.setCell ?_ (by first | (simp; done) | (simp; omega) | omega) _ | with_reducible refine below_drewN ?_ _ | with_reducible refine Below.drew ?_ | with_reducible refine Below.alloc ?_ (by first | (simp; done) | (simp; omega) | omega) _))⟩
    · have HU : Hid (uf t e p = e) := by
        show _ = _
        unfold uf
        repeat' split
        all_goals omega
      go_enter Try.func20, Try.ntmps20
      go_wp2
      rw [HU.out]
      exact bodyPost_ret (v := .agg #[.int .i64 (e), .int .u64 t]) (by simp [results, Try.results20, go_sem]) rfl ⟨rfl, (by repeat' (first | with_reducible exact Below.refl _ _ | with_reducible refine Below.setCell ?_ (by first | (simp; done) | (simp; omega) | omega) _ | with_reducible refine below_drewN ?_ _ | with_reducible refine Below.drew ?_ | with_reducible refine Below.alloc ?_ (by first | (simp; done) | (simp; omega) | omega) _))⟩
set_option maxHeartbeats 400000 in
theorem date_any (e p : Int) (w : World) :
    Calls Try.prog 18 #[.agg #[.int .i64 e, .int .u64 p]] w fun r w' => r = .returned (.agg #[.int .i64 e, .int .u64 p]) ∧ Below w.heap.size w w' := by
  go_enter Try.func18, Try.ntmps18
  go_wp2
  exact bodyPost_ret (v := .agg #[.int .i64 e, .int .u64 p]) (by simp [results, Try.results18, go_sem]) rfl ⟨rfl, (by repeat' (first | with_reducible exact Below.refl _ _ | with_reducible refine Below.setCell ?_ (by first | (simp; done) | (simp; omega) | omega) _ | with_reducible refine below_drewN ?_ _ | with_reducible refine Below.drew ?_ | with_reducible refine Below.alloc ?_ (by first | (simp; done) | (simp; omega) | omega) _))⟩
/-- a date that lies boxed in a call's first block stays -/
structure Kp (w v : World) (e p : Int) : Prop where
  bel : Below w.heap.size w v
  top : w.heap.size < v.heap.size
  c0 : v.cell? ⟨w.heap.size, 0, none⟩ = some (.int .i64 e)
  c1 : v.cell? ⟨w.heap.size, 1, none⟩ = some (.int .u64 p)
theorem Kp.step0 {w v v' : World} {e p : Int} (h : Kp w v e p) (hb : Below v.heap.size v v') : Kp w v' e p :=
  ⟨h.bel.trans (hb.mono (Nat.le_of_lt h.top)), Nat.lt_of_lt_of_le h.top hb.size, by rw [hb.cell h.top]; exact h.c0, by rw [hb.cell h.top]; exact h.c1⟩
theorem Kp.step1 {w v v' : World} {e p : Int} (h : Kp w v e p) (hb : Below v.drew.heap.size v.drew v') : Kp w v' e p :=
  Kp.step0 (v := v.drew) ⟨h.bel.drew, h.top, h.c0, h.c1⟩ hb
set_option maxHeartbeats 4000000 in
theorem StampUnfolds_walk (t e p : Int) (w : World) (t0 : 0 ≤ t) (t1 : t < 18446744073709551616) (p0 : 0 ≤ p) (p1 : p < 18446744073709551616) :
    Calls Try.prog 6 #[.int .u64 t, .agg #[.int .i64 e, .int .u64 p]] w fun r w' => r = .returned (.bool true) ∧ Below w.heap.size w w' := by
  by_cases h1 : 4611686018427387904 < e
  · go_enter Try.func6, Try.ntmps6
    go_wp2_with fail
    refine (shown_any _).mono ?_
    rintro r w1 ⟨rfl, hb⟩
    have hz : w.heap.size < w1.heap.size := by have := hb.size; simp at this; omega
    have c0 : w1.cell? ⟨w.heap.size, 0, none⟩ = some (.int .i64 e) := by rw [hb.cell (by simp)]; simp
    have hB : Hid (Below w.heap.size w w1) := by
      refine Below.trans ?_ (hb.mono (by simp))
      exact (by repeat' (first | with_reducible exact Below.refl _ _ | with_reducible refine Below.setCell ?_ (by first | (simp; done) | (simp; omega) | omega) _ | with_reducible refine below_drewN ?_ _ | with_reducible refine Below.drew ?_ | with_reducible refine Below.alloc ?_ (by first | (simp; done) | (simp; omega) | omega) _))
    clear hb
    go_wp2
    go_ret
    exact ⟨rfl, (by repeat' (first | with_reducible exact Below.refl _ _ | with_reducible exact hB.out | with_reducible refine Below.setCell ?_ (by first | (simp; done) | (simp; omega) | omega) _ | with_reducible refine below_drewN ?_ _ | with_reducible refine Below.drew ?_ | with_reducible refine Below.alloc ?_ (by first | (simp; done) | (simp; omega) | omega) _))⟩
  by_cases h2 : e < -4611686018427387904
  · go_enter Try.func6, Try.ntmps6
    go_wp2_with fail
    refine (shown_any _).mono ?_
    rintro r w1 ⟨rfl, hb⟩
    have hz : w.heap.size < w1.heap.size := by have := hb.size; simp at this; omega
    have c0 : w1.cell? ⟨w.heap.size, 0, none⟩ = some (.int .i64 e) := by rw [hb.cell (by simp)]; simp
    have hB : Hid (Below w.heap.size w w1) := by
      refine Below.trans ?_ (hb.mono (by simp))
      exact (by repeat' (first | with_reducible exact Below.refl _ _ | with_reducible refine Below.setCell ?_ (by first | (simp; done) | (simp; omega) | omega) _ | with_reducible refine below_drewN ?_ _ | with_reducible refine Below.drew ?_ | with_reducible refine Below.alloc ?_ (by first | (simp; done) | (simp; omega) | omega) _))
    clear hb
    go_wp2
    go_ret
    exact ⟨rfl, (by repeat' (first | with_reducible exact Below.refl _ _ | with_reducible exact hB.out | with_reducible refine Below.setCell ?_ (by first | (simp; done) | (simp; omega) | omega) _ | with_reducible refine below_drewN ?_ _ | with_reducible refine Below.drew ?_ | with_reducible refine Below.alloc ?_ (by first | (simp; done) | (simp; omega) | omega) _))⟩
  go_enter Try.func6, Try.ntmps6
  go_wp2_with fail
  refine (shown_any _).mono ?_
  rintro r w1 ⟨rfl, hb⟩
  have hz : w.heap.size < w1.heap.size := by have := hb.size; simp at this; omega
  have c0 : w1.cell? ⟨w.heap.size, 0, none⟩ = some (.int .i64 e) := by rw [hb.cell (by simp)]; simp
  have c1 : w1.cell? ⟨w.heap.size, 1, none⟩ = some (.int .u64 p) := by rw [hb.cell (by simp)]; simp
  have K : Hid (Kp w w1 e p) := ⟨by refine Below.trans ?_ (hb.mono (by simp)); exact (by repeat' (first | with_reducible exact Below.refl _ _ | with_reducible refine Below.setCell ?_ (by first | (simp; done) | (simp; omega) | omega) _ | with_reducible refine below_drewN ?_ _ | with_reducible refine Below.drew ?_ | with_reducible refine Below.alloc ?_ (by first | (simp; done) | (simp; omega) | omega) _)), hz, c0, c1⟩
  clear hb
  go_wp2_with fail
  clear c0 c1
  go_region_held3 (fun w' => w'.cell? ⟨w.heap.size, 0, none⟩ = some (.int .i64 e) ∧ w'.cell? ⟨w.heap.size, 1, none⟩ = some (.int .u64 p)) (first | exact ⟨K.out.c0, K.out.c1⟩ | go_keep) (first
    | (go_at_call 19; refine (unfold_any t e p _ t0 t1 p0 p1 (by omega) (by omega)).mono ?_; rintro r w2 ⟨rfl, hb⟩; have K2 : Hid (Kp w w2 e p) := (by first | exact K.out.step0 hb | exact K.out.step1 hb); clear hb K; have K := K2; clear K2)
    | (go_at_call 20; refine (runfold_any t e p _ t0 t1 p0 p1 (by omega) (by omega)).mono ?_; rintro r w2 ⟨rfl, hb⟩; have K2 : Hid (Kp w w2 e p) := (by first | exact K.out.step0 hb | exact K.out.step1 hb); clear hb K; have K := K2; clear K2)
    | (go_at_call 18; refine (date_any _ _ _).mono ?_; rintro r w2 ⟨rfl, hb⟩; have K2 : Hid (Kp w w2 e p) := (by first | exact K.out.step0 hb | exact K.out.step1 hb); clear hb K; have K := K2; clear K2))
  all_goals
    go_wp2
    go_ret
    exact ⟨rfl, K.out.bel⟩
theorem StampUnfolds_row (t e p : Int) (w : World) (w0 : (Lit.int .u64 t).wf = true) (_w1 : (Lit.int .i64 e).wf = true) (w2 : (Lit.int .u64 p).wf = true) :
    Calls Try.prog 6 #[.int .u64 t, .agg #[.int .i64 e, .int .u64 p]] w fun r w' => r = .returned (.bool true) ∧ Below w.heap.size w w' := by
  obtain ⟨t0, t1⟩ := bounds_u64 w0
  obtain ⟨p0, p1⟩ := bounds_u64 w2
  exact StampUnfolds_walk t e p w t0 (by omega) p0 (by omega)
end Go.Proofs.Ytifaneckfnjgiaa
