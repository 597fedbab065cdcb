/- That the law StampEras returns true. -/
import Derived.Test.YtifaneckfnjgiaaStV
import Derived.WalkKit
import Derived.WalkSpells
import Derived.WalkLawsBesides
import Derived.Handy
import Derived.Below
import Derived.Deep.RegionHeld3
namespace Go.Proofs.Ytifaneckfnjgiaa
open Go.RowKit
/-- two dates that lie boxed stay -/
structure Kq (w v : World) (B : Nat) (e p E q : Int) : Prop where
  bel : Below w.heap.size w v
  top : w.heap.size < v.heap.size
  tob : B < v.heap.size
  c0 : v.cell? ⟨w.heap.size, 0, none⟩ = some (.int .i64 e)
  c1 : v.cell? ⟨w.heap.size, 1, none⟩ = some (.int .u64 p)
  d0 : v.cell? ⟨B, 0, none⟩ = some (.int .i64 E)
  d1 : v.cell? ⟨B, 1, none⟩ = some (.int .u64 q)
theorem Kq.step0 {w v v' : World} {B : Nat} {e p E q : Int} (h : Kq w v B e p E q) (hb : Below v.heap.size v v') : Kq w v' B e p E q :=
  ⟨h.bel.trans (hb.mono (Nat.le_of_lt h.top)), Nat.lt_of_lt_of_le h.top hb.size, Nat.lt_of_lt_of_le h.tob hb.size, by rw [hb.cell h.top]; exact h.c0, by rw [hb.cell h.top]; exact h.c1, by rw [hb.cell h.tob]; exact h.d0, by rw [hb.cell h.tob]; exact h.d1⟩
theorem Kq.step1 {w v v' : World} {B : Nat} {e p E q : Int} (h : Kq w v B e p E q) (hb : Below v.drew.heap.size v.drew v') : Kq w v' B e p E q :=
  Kq.step0 (v := v.drew) ⟨h.bel.drew, h.top, h.tob, h.c0, h.c1, h.d0, h.d1⟩ hb
theorem Kq.start {w w1 : World} {e p : Int} (h : Kp w w1 e p) (E q : Int) (T : TypeId) : Kq w (w1.alloc (.cells #[.int .i64 E, .int .u64 q] T)) w1.heap.size e p E q :=
  ⟨h.bel.alloc (Nat.le_of_lt h.top) _, by have := h.top; simp; omega, by simp, by rw [World.cell?_alloc_lt (h := h.top)]; exact h.c0, by rw [World.cell?_alloc_lt (h := h.top)]; exact h.c1, by rw [World.cell?_alloc_new]; rfl, by rw [World.cell?_alloc_new]; rfl⟩
set_option maxHeartbeats 4000000 in
theorem erasUp (e p b q : Int) (w : World) (p0 : 0 ≤ p) (p1 : p < 18446744073709551616) (q0 : 0 ≤ q) (q1 : q < 18446744073709551616) (e0 : -4611686018427387904 ≤ e) (e1 : e ≤ 4611686018427387904) (b0 : 0 < b) (b1 : b ≤ 4611686018427387904) (hq : IntKind.u64.wrap (p + b) = q) (hl : q < p) (U1 : uf q e p = e + 1) (U2 : uf p (e + 1) q = e) :
    Calls Try.prog 7 #[.agg #[.int .i64 e, .int .u64 p], .int .i64 b] w fun r w' => r = .returned (.bool true) ∧ Below w.heap.size w w' := by
  go_enter Try.func7, Try.ntmps7
  go_wp2_with fail
  refine (shown_any _).mono ?_
  rintro r w1 ⟨rfl, hb⟩
  have hz : w.heap.size < w1.heap.size := by have := hb.size; simp at this; omega
  have c0 : w1.cell? ⟨w.heap.size, 0, none⟩ = some (.int .i64 e) := by rw [hb.cell (by simp)]; simp
  have c1 : w1.cell? ⟨w.heap.size, 1, none⟩ = some (.int .u64 p) := by rw [hb.cell (by simp)]; simp
  have K0 : Hid (Kp w w1 e p) := ⟨by refine Below.trans ?_ (hb.mono (by simp)); exact (by repeat' (first | with_reducible exact Below.refl _ _ | with_reducible refine Below.setCell ?_ (by first | (simp; done) | (simp; omega) | omega) _ | with_reducible refine below_drewN ?_ _ | with_reducible refine Below.drew ?_ | with_reducible refine Below.alloc ?_ (by first | (simp; done) | (simp; omega) | omega) _)), hz, c0, c1⟩
  have K : Hid (Kq w _ w1.heap.size e p (e + 1) q) := Kq.start K0.out (e + 1) q 35
  clear hb K0
  go_wp2_with fail
  clear c0 c1
  go_region_held3 (fun w' => w'.cell? ⟨w.heap.size, 0, none⟩ = some (.int .i64 e) ∧ w'.cell? ⟨w.heap.size, 1, none⟩ = some (.int .u64 p) ∧ w'.cell? ⟨w1.heap.size, 0, none⟩ = some (.int .i64 (e + 1)) ∧ w'.cell? ⟨w1.heap.size, 1, none⟩ = some (.int .u64 q)) (first | exact ⟨K.out.c0, K.out.c1, K.out.d0, K.out.d1⟩ | go_keep)
    ((go_at_call 19; refine (unfold_any _ _ _ _ (by omega) (by omega) (by omega) (by omega) (by omega) (by omega)).mono ?_; rintro r w2 ⟨rfl, hb⟩; have K2 : Hid (Kq w w2 w1.heap.size e p (e + 1) q) := (by first | exact K.out.step0 hb | exact K.out.step1 hb); clear hb K; have K := K2; clear K2))
  all_goals
    go_wp2
    go_ret
    exact ⟨ret_bool' (by simp), K.out.bel⟩
set_option maxHeartbeats 4000000 in
theorem erasUp0 (e p b q : Int) (w : World) (p0 : 0 ≤ p) (p1 : p < 18446744073709551616) (q0 : 0 ≤ q) (q1 : q < 18446744073709551616) (e0 : -4611686018427387904 ≤ e) (e1 : e ≤ 4611686018427387904) (b0 : 0 < b) (b1 : b ≤ 4611686018427387904) (hq : IntKind.u64.wrap (p + b) = q) (hl : p ≤ q) (U1 : uf q e p = e) (U2 : uf p (e) q = e) :
    Calls Try.prog 7 #[.agg #[.int .i64 e, .int .u64 p], .int .i64 b] w fun r w' => r = .returned (.bool true) ∧ Below w.heap.size w w' := by
  go_enter Try.func7, Try.ntmps7
  go_wp2_with fail
  refine (shown_any _).mono ?_
  rintro r w1 ⟨rfl, hb⟩
  have hz : w.heap.size < w1.heap.size := by have := hb.size; simp at this; omega
  have c0 : w1.cell? ⟨w.heap.size, 0, none⟩ = some (.int .i64 e) := by rw [hb.cell (by simp)]; simp
  have c1 : w1.cell? ⟨w.heap.size, 1, none⟩ = some (.int .u64 p) := by rw [hb.cell (by simp)]; simp
  have K0 : Hid (Kp w w1 e p) := ⟨by refine Below.trans ?_ (hb.mono (by simp)); exact (by repeat' (first | with_reducible exact Below.refl _ _ | with_reducible refine Below.setCell ?_ (by first | (simp; done) | (simp; omega) | omega) _ | with_reducible refine below_drewN ?_ _ | with_reducible refine Below.drew ?_ | with_reducible refine Below.alloc ?_ (by first | (simp; done) | (simp; omega) | omega) _)), hz, c0, c1⟩
  have K : Hid (Kq w _ w1.heap.size e p (e) q) := Kq.start K0.out (e) q 35
  clear hb K0
  go_wp2_with fail
  clear c0 c1
  go_region_held3 (fun w' => w'.cell? ⟨w.heap.size, 0, none⟩ = some (.int .i64 e) ∧ w'.cell? ⟨w.heap.size, 1, none⟩ = some (.int .u64 p) ∧ w'.cell? ⟨w1.heap.size, 0, none⟩ = some (.int .i64 (e)) ∧ w'.cell? ⟨w1.heap.size, 1, none⟩ = some (.int .u64 q)) (first | exact ⟨K.out.c0, K.out.c1, K.out.d0, K.out.d1⟩ | go_keep)
    ((go_at_call 19; refine (unfold_any _ _ _ _ (by omega) (by omega) (by omega) (by omega) (by omega) (by omega)).mono ?_; rintro r w2 ⟨rfl, hb⟩; have K2 : Hid (Kq w w2 w1.heap.size e p (e) q) := (by first | exact K.out.step0 hb | exact K.out.step1 hb); clear hb K; have K := K2; clear K2))
  all_goals
    go_wp2
    go_ret
    exact ⟨ret_bool' (by simp), K.out.bel⟩
set_option maxHeartbeats 4000000 in
theorem erasDown (e p b q c : Int) (w : World) (p0 : 0 ≤ p) (p1 : p < 18446744073709551616) (q0 : 0 ≤ q) (q1 : q < 18446744073709551616) (e0 : -4611686018427387904 ≤ e) (e1 : e ≤ 4611686018427387904) (b0 : b < 0) (b1 : -4611686018427387904 ≤ b) (hc : IntKind.u64.wrap b = c) (hq : IntKind.u64.wrap (p + c) = q) (hl : p < q) (U1 : uf q e p = e - 1) (U2 : uf p (e - 1) q = e) :
    Calls Try.prog 7 #[.agg #[.int .i64 e, .int .u64 p], .int .i64 b] w fun r w' => r = .returned (.bool true) ∧ Below w.heap.size w w' := by
  go_enter Try.func7, Try.ntmps7
  go_wp2_with fail
  refine (shown_any _).mono ?_
  rintro r w1 ⟨rfl, hb⟩
  have hz : w.heap.size < w1.heap.size := by have := hb.size; simp at this; omega
  have c0 : w1.cell? ⟨w.heap.size, 0, none⟩ = some (.int .i64 e) := by rw [hb.cell (by simp)]; simp
  have c1 : w1.cell? ⟨w.heap.size, 1, none⟩ = some (.int .u64 p) := by rw [hb.cell (by simp)]; simp
  have K0 : Hid (Kp w w1 e p) := ⟨by refine Below.trans ?_ (hb.mono (by simp)); exact (by repeat' (first | with_reducible exact Below.refl _ _ | with_reducible refine Below.setCell ?_ (by first | (simp; done) | (simp; omega) | omega) _ | with_reducible refine below_drewN ?_ _ | with_reducible refine Below.drew ?_ | with_reducible refine Below.alloc ?_ (by first | (simp; done) | (simp; omega) | omega) _)), hz, c0, c1⟩
  have K : Hid (Kq w _ w1.heap.size e p (e - 1) q) := Kq.start K0.out (e - 1) q 35
  clear hb K0
  go_wp2_with fail
  clear c0 c1
  go_region_held3 (fun w' => w'.cell? ⟨w.heap.size, 0, none⟩ = some (.int .i64 e) ∧ w'.cell? ⟨w.heap.size, 1, none⟩ = some (.int .u64 p) ∧ w'.cell? ⟨w1.heap.size, 0, none⟩ = some (.int .i64 (e - 1)) ∧ w'.cell? ⟨w1.heap.size, 1, none⟩ = some (.int .u64 q)) (first | exact ⟨K.out.c0, K.out.c1, K.out.d0, K.out.d1⟩ | go_keep)
    ((go_at_call 19; refine (unfold_any _ _ _ _ (by omega) (by omega) (by omega) (by omega) (by omega) (by omega)).mono ?_; rintro r w2 ⟨rfl, hb⟩; have K2 : Hid (Kq w w2 w1.heap.size e p (e - 1) q) := (by first | exact K.out.step0 hb | exact K.out.step1 hb); clear hb K; have K := K2; clear K2))
  all_goals
    go_wp2
    go_ret
    exact ⟨ret_bool' (by simp), K.out.bel⟩
set_option maxHeartbeats 4000000 in
theorem erasDown0 (e p b q c : Int) (w : World) (p0 : 0 ≤ p) (p1 : p < 18446744073709551616) (q0 : 0 ≤ q) (q1 : q < 18446744073709551616) (e0 : -4611686018427387904 ≤ e) (e1 : e ≤ 4611686018427387904) (b0 : b < 0) (b1 : -4611686018427387904 ≤ b) (hc : IntKind.u64.wrap b = c) (hq : IntKind.u64.wrap (p + c) = q) (hl : q ≤ p) (U1 : uf q e p = e) (U2 : uf p (e) q = e) :
    Calls Try.prog 7 #[.agg #[.int .i64 e, .int .u64 p], .int .i64 b] w fun r w' => r = .returned (.bool true) ∧ Below w.heap.size w w' := by
  go_enter Try.func7, Try.ntmps7
  go_wp2_with fail
  refine (shown_any _).mono ?_
  rintro r w1 ⟨rfl, hb⟩
  have hz : w.heap.size < w1.heap.size := by have := hb.size; simp at this; omega
  have c0 : w1.cell? ⟨w.heap.size, 0, none⟩ = some (.int .i64 e) := by rw [hb.cell (by simp)]; simp
  have c1 : w1.cell? ⟨w.heap.size, 1, none⟩ = some (.int .u64 p) := by rw [hb.cell (by simp)]; simp
  have K0 : Hid (Kp w w1 e p) := ⟨by refine Below.trans ?_ (hb.mono (by simp)); exact (by repeat' (first | with_reducible exact Below.refl _ _ | with_reducible refine Below.setCell ?_ (by first | (simp; done) | (simp; omega) | omega) _ | with_reducible refine below_drewN ?_ _ | with_reducible refine Below.drew ?_ | with_reducible refine Below.alloc ?_ (by first | (simp; done) | (simp; omega) | omega) _)), hz, c0, c1⟩
  have K : Hid (Kq w _ w1.heap.size e p (e) q) := Kq.start K0.out (e) q 35
  clear hb K0
  go_wp2_with fail
  clear c0 c1
  go_region_held3 (fun w' => w'.cell? ⟨w.heap.size, 0, none⟩ = some (.int .i64 e) ∧ w'.cell? ⟨w.heap.size, 1, none⟩ = some (.int .u64 p) ∧ w'.cell? ⟨w1.heap.size, 0, none⟩ = some (.int .i64 (e)) ∧ w'.cell? ⟨w1.heap.size, 1, none⟩ = some (.int .u64 q)) (first | exact ⟨K.out.c0, K.out.c1, K.out.d0, K.out.d1⟩ | go_keep)
    ((go_at_call 19; refine (unfold_any _ _ _ _ (by omega) (by omega) (by omega) (by omega) (by omega) (by omega)).mono ?_; rintro r w2 ⟨rfl, hb⟩; have K2 : Hid (Kq w w2 w1.heap.size e p (e) q) := (by first | exact K.out.step0 hb | exact K.out.step1 hb); clear hb K; have K := K2; clear K2))
  all_goals
    go_wp2
    go_ret
    exact ⟨ret_bool' (by simp), K.out.bel⟩
set_option maxHeartbeats 4000000 in
theorem erasNone (e p : Int) (w : World) (p0 : 0 ≤ p) (p1 : p < 18446744073709551616) (e0 : -4611686018427387904 ≤ e) (e1 : e ≤ 4611686018427387904)  (U1 : uf p e p = e) :
    Calls Try.prog 7 #[.agg #[.int .i64 e, .int .u64 p], .int .i64 0] w fun r w' => r = .returned (.bool true) ∧ Below w.heap.size w w' := by
  go_enter Try.func7, Try.ntmps7
  go_wp2_with fail
  refine (shown_any _).mono ?_
  rintro r w1 ⟨rfl, hb⟩
  have hz : w.heap.size < w1.heap.size := by have := hb.size; simp at this; omega
  have c0 : w1.cell? ⟨w.heap.size, 0, none⟩ = some (.int .i64 e) := by rw [hb.cell (by simp)]; simp
  have c1 : w1.cell? ⟨w.heap.size, 1, none⟩ = some (.int .u64 p) := by rw [hb.cell (by simp)]; simp
  have K0 : Hid (Kp w w1 e p) := ⟨by refine Below.trans ?_ (hb.mono (by simp)); exact (by repeat' (first | with_reducible exact Below.refl _ _ | with_reducible refine Below.setCell ?_ (by first | (simp; done) | (simp; omega) | omega) _ | with_reducible refine below_drewN ?_ _ | with_reducible refine Below.drew ?_ | with_reducible refine Below.alloc ?_ (by first | (simp; done) | (simp; omega) | omega) _)), hz, c0, c1⟩
  have K : Hid (Kq w _ w1.heap.size e p (e) p) := Kq.start K0.out (e) p 35
  clear hb K0
  go_wp2_with fail
  clear c0 c1
  go_region_held3 (fun w' => w'.cell? ⟨w.heap.size, 0, none⟩ = some (.int .i64 e) ∧ w'.cell? ⟨w.heap.size, 1, none⟩ = some (.int .u64 p) ∧ w'.cell? ⟨w1.heap.size, 0, none⟩ = some (.int .i64 (e)) ∧ w'.cell? ⟨w1.heap.size, 1, none⟩ = some (.int .u64 p)) (first | exact ⟨K.out.c0, K.out.c1, K.out.d0, K.out.d1⟩ | go_keep)
    ((go_at_call 19; refine (unfold_any _ _ _ _ (by omega) (by omega) (by omega) (by omega) (by omega) (by omega)).mono ?_; rintro r w2 ⟨rfl, hb⟩; have K2 : Hid (Kq w w2 w1.heap.size e p (e) p) := (by first | exact K.out.step0 hb | exact K.out.step1 hb); clear hb K; have K := K2; clear K2))
  all_goals
    go_wp2
    go_ret
    exact ⟨ret_bool' (by simp), K.out.bel⟩
set_option maxHeartbeats 1000000 in
theorem erasFar (e p b : Int) (w : World) (h : 4611686018427387904 < e ∨ e < -4611686018427387904 ∨ b < -4611686018427387904 ∨ 4611686018427387904 < b) :
    Calls Try.prog 7 #[.agg #[.int .i64 e, .int .u64 p], .int .i64 b] w fun r w' => r = .returned (.bool true) ∧ Below w.heap.size w w' := by
  have key : ∀ b1 b2 b3 b4 : Bool, decide (4611686018427387904 < e) = b1 → decide (e < -4611686018427387904) = b2 → decide (b < -4611686018427387904) = b3 → decide (4611686018427387904 < b) = b4 → (b1 || b2 || b3 || b4) = true → Calls Try.prog 7 #[.agg #[.int .i64 e, .int .u64 p], .int .i64 b] w fun r w' => r = .returned (.bool true) ∧ Below w.heap.size w w' := by
    intro b1 b2 b3 b4 h1 h2 h3 h4 ho
    cases b1 <;> cases b2 <;> cases b3 <;> cases b4 <;> first | (cases ho; done) | skip
    all_goals
      clear ho h
      simp only [decide_eq_true_eq, decide_eq_false_iff_not] at h1 h2 h3 h4
      try (exfalso; omega)
    all_goals
      go_enter Try.func7, Try.ntmps7
      go_wp2_with fail
      refine (shown_any _).mono ?_
      rintro r w1 ⟨rfl, hb⟩
      have hz : w.heap.size < w1.heap.size := by have := hb.size; simp at this; omega
      have c0 : w1.cell? ⟨w.heap.size, 0, none⟩ = some (.int .i64 e) := by rw [hb.cell (by simp)]; simp
      have hB : Hid (Below w.heap.size w w1) := by
        refine Below.trans ?_ (hb.mono (by simp))
        exact (by repeat' (first | with_reducible exact Below.refl _ _ | with_reducible refine Below.setCell ?_ (by first | (simp; done) | (simp; omega) | omega) _ | with_reducible refine below_drewN ?_ _ | with_reducible refine Below.drew ?_ | with_reducible refine Below.alloc ?_ (by first | (simp; done) | (simp; omega) | omega) _))
      clear hb
      go_wp2
      go_ret
      exact ⟨rfl, hB.out⟩
  exact key _ _ _ _ rfl rfl rfl rfl (by simp only [Bool.or_eq_true, decide_eq_true_eq]; omega)
theorem StampEras_walk (e p b : Int) (w : World) (p0 : 0 ≤ p) (p1 : p < 18446744073709551616) :
    Calls Try.prog 7 #[.agg #[.int .i64 e, .int .u64 p], .int .i64 b] w fun r w' => r = .returned (.bool true) ∧ Below w.heap.size w w' := by
  by_cases hf : 4611686018427387904 < e ∨ e < -4611686018427387904 ∨ b < -4611686018427387904 ∨ 4611686018427387904 < b
  · exact erasFar e p b w hf
  have g1 : e ≤ 4611686018427387904 := by omega
  have g2 : -4611686018427387904 ≤ e := by omega
  have g3 : -4611686018427387904 ≤ b := by omega
  have g4 : b ≤ 4611686018427387904 := by omega
  clear hf
  rcases Int.lt_trichotomy b 0 with hb | hb | hb
  · have hq : IntKind.u64.wrap (p + IntKind.u64.wrap b) = (p + b) % 18446744073709551616 := by simp only [IntKind.wrap_u64]; omega
    by_cases hl : p < (p + b) % 18446744073709551616
    · exact erasDown e p b _ _ w p0 p1 (by omega) (by omega) g2 g1 hb g3 rfl hq hl (by unfold uf; (repeat' split) <;> omega) (by unfold uf; (repeat' split) <;> omega)
    · exact erasDown0 e p b _ _ w p0 p1 (by omega) (by omega) g2 g1 hb g3 rfl hq (by omega) (by unfold uf; (repeat' split) <;> omega) (by unfold uf; (repeat' split) <;> omega)
  · subst hb
    exact erasNone e p w p0 p1 g2 g1 (by unfold uf; (repeat' split) <;> omega)
  · have hq : IntKind.u64.wrap (p + b) = (p + b) % 18446744073709551616 := by simp only [IntKind.wrap_u64]
    by_cases hl : (p + b) % 18446744073709551616 < p
    · exact erasUp e p b _ w p0 p1 (by omega) (by omega) g2 g1 hb g4 hq hl (by unfold uf; (repeat' split) <;> omega) (by unfold uf; (repeat' split) <;> omega)
    · exact erasUp0 e p b _ w p0 p1 (by omega) (by omega) g2 g1 hb g4 hq (by omega) (by unfold uf; (repeat' split) <;> omega) (by unfold uf; (repeat' split) <;> omega)
theorem StampEras_row (e p b : Int) (w : World) (_w0 : (Lit.int .i64 e).wf = true) (w1 : (Lit.int .u64 p).wf = true) (_w2 : (Lit.int .i64 b).wf = true) :
    Calls Try.prog 7 #[.agg #[.int .i64 e, .int .u64 p], .int .i64 b] w fun r w' => r = .returned (.bool true) ∧ Below w.heap.size w w' := by
  obtain ⟨p0, p1⟩ := bounds_u64 w1
  exact StampEras_walk e p b w p0 (by omega)
end Go.Proofs.Ytifaneckfnjgiaa
