/- PulseOffsets and PulseTurns, walked. -/
import Derived.Test.YtenlkadmniobdaaPJ
import Derived.OpenShut
namespace Go.Proofs.Ytenlkadmniobdaa
open Go.RowKit
theorem and_lowu0 (n : Int) (h : n % 4294967296 = 0) : bits .and .u64 n 4294967295 = 0 := (and_lowu n).trans h
set_option maxHeartbeats 1000000 in
theorem PulseOffsets_walk (a0 : Int) (_w0 : (Lit.int .u64 a0).wf = true) (w : World) :
    Calls Try.prog 3 #[.int .u64 a0] w fun e w' => e = .returned (.bool true) ∧ Below w.heap.size w w' := by
  have hb := ofs_bd a0
  have hp := pl_ofs a0
  obtain ⟨o, ho⟩ : ∃ o, o = ofs a0 := ⟨_, rfl⟩
  have hof : ∀ u, Calls Try.prog 10 #[.int .u64 a0] u fun e w' => e = .returned (.int .i64 o) ∧ w' = u := fun u => by rw [ho]; exact offset_any a0 u
  have hrf : ∀ u, Calls Try.prog 11 #[.int .u64 a0] u fun e w' => e = .returned (.int .i64 o) ∧ w' = u := fun u => by rw [ho]; exact roffset_any a0 u
  rw [← ho] at hb hp
  have hx : bits .and .u64 (IntKind.u64.wrap (a0 + IntKind.u64.wrap o)) 4294967295 = 0 := and_lowu0 _ (by unfold pl at hp; simp only [IntKind.wrap_u64]; omega)
  have HO : Hid _ := hof
  have HR : Hid _ := hrf
  clear hof hrf ho hp
  go_enter Try.func3, Try.ntmps3
  go_wp2_with fail
  refine (shown_any _).mono ?_
  rintro e w1 ⟨rfl, hB⟩
  go_wp2_with (first | (go_at_call 10; refine (HO.out _).mono ?_; rintro e w' ⟨rfl, rfl⟩) | (go_at_call 11; refine (HR.out _).mono ?_; rintro e w' ⟨rfl, rfl⟩))
  go_ret
  exact ⟨rfl, hB⟩
set_option maxHeartbeats 1000000 in
theorem equal_any (x : Nat) (w : World) : Calls Try.prog 16 #[.float .f64 x, .float .f64 x] w fun e w' => e = .returned (.bool true) ∧ w' = w := by
  cases h : (FloatKind.f64.format.order x x == some .eq)
  · have h2 : (FloatKind.f64.format.order x x != some .eq) = true := by simp [bne, h]
    go_enter Try.func16, Try.ntmps16
    go_wp2
    go_ret
    exact ⟨rfl, rfl⟩
  · go_enter Try.func16, Try.ntmps16
    go_wp2
    go_ret
    exact ⟨rfl, rfl⟩
theorem turn_to (a b : Nat) (k : Int) (c d : Nat) (h1 : tnR a b k = c) (h2 : tnI a b k = d) (w : World) : Calls Try.prog 14 #[.complex .f64 a b, .int .i64 k] w fun e w' => e = .returned (.complex .f64 c d) ∧ w' = w := by
  subst h1; subst h2
  exact turn_any a b k w
theorem rturn_to (a b : Nat) (k : Int) (c d : Nat) (h1 : tnR a b k = c) (h2 : tnI a b k = d) (w : World) : Calls Try.prog 15 #[.float .f64 a, .float .f64 b, .int .i64 k] w fun e w' => e = .returned (.tuple #[.float .f64 c, .float .f64 d]) ∧ w' = w := by
  subst h1; subst h2
  exact rturn_any a b k w
set_option maxHeartbeats 4000000 in
theorem PulseTurns_walk (re im : Nat) (a b : Int) (w : World) :
    Calls Try.prog 6 #[.float .f64 re, .float .f64 im, .int .i64 a, .int .i64 b] w fun e w' => e = .returned (.bool true) ∧ Below w.heap.size w w' := by
  obtain ⟨a1, a2, a3⟩ := tm4 a
  obtain ⟨b1, b2, b3⟩ := tm4 b
  obtain ⟨xr, hxr⟩ : ∃ x, x = tnR re im a := ⟨_, rfl⟩
  obtain ⟨xi, hxi⟩ : ∃ x, x = tnI re im a := ⟨_, rfl⟩
  obtain ⟨zr, hzr⟩ : ∃ x, x = tnR xr xi b := ⟨_, rfl⟩
  obtain ⟨zi, hzi⟩ : ∃ x, x = tnI xr xi b := ⟨_, rfl⟩
  obtain ⟨ur, hur⟩ : ∃ x, x = tnR re im 3 := ⟨_, rfl⟩
  obtain ⟨ui, hui⟩ : ∃ x, x = tnI re im 3 := ⟨_, rfl⟩
  have t0 := tn_0 (a := re) (b := im) (show (0 : Int) % 4 = 0 from rfl)
  have q1 := tn_tn re im a b (a.tmod 4 + b.tmod 4) (by omega)
  have q2 := tn_tn re im 3 1 0 (by decide)
  have q3 := tn_tn re im a (-(a.tmod 4)) 0 (by omega)
  rw [t0.1, t0.2] at q2 q3
  rw [← hxr, ← hxi] at q1 q3
  rw [← hur, ← hui] at q2
  rw [← hzr, ← hzi] at q1
  have H1 : Hid (∀ u, Calls Try.prog 14 #[.complex .f64 re im, .int .i64 a] u fun e w' => e = .returned (.complex .f64 xr xi) ∧ w' = u) := turn_to re im a xr xi hxr.symm hxi.symm
  have H2 : Hid (∀ u, Calls Try.prog 15 #[.float .f64 re, .float .f64 im, .int .i64 a] u fun e w' => e = .returned (.tuple #[.float .f64 xr, .float .f64 xi]) ∧ w' = u) := rturn_to re im a xr xi hxr.symm hxi.symm
  have H3 : Hid (∀ u, Calls Try.prog 14 #[.complex .f64 xr xi, .int .i64 b] u fun e w' => e = .returned (.complex .f64 zr zi) ∧ w' = u) := turn_to xr xi b zr zi hzr.symm hzi.symm
  have H4 : Hid (∀ u, Calls Try.prog 14 #[.complex .f64 re im, .int .i64 (a.tmod 4 + b.tmod 4)] u fun e w' => e = .returned (.complex .f64 zr zi) ∧ w' = u) := turn_to re im _ zr zi q1.1.symm q1.2.symm
  have H5 : Hid (∀ u, Calls Try.prog 14 #[.complex .f64 re im, .int .i64 3] u fun e w' => e = .returned (.complex .f64 ur ui) ∧ w' = u) := turn_to re im 3 ur ui hur.symm hui.symm
  have H6 : Hid (∀ u, Calls Try.prog 14 #[.complex .f64 ur ui, .int .i64 1] u fun e w' => e = .returned (.complex .f64 re im) ∧ w' = u) := turn_to ur ui 1 re im q2.1 q2.2
  have H7 : Hid (∀ u, Calls Try.prog 14 #[.complex .f64 xr xi, .int .i64 (-(a.tmod 4))] u fun e w' => e = .returned (.complex .f64 re im) ∧ w' = u) := turn_to xr xi _ re im q3.1 q3.2
  clear hxr hxi hzr hzi hur hui t0 q1 q2 q3 a3 b3
  go_enter Try.func6, Try.ntmps6
  go_wp2_with fail
  refine (shown_any _).mono ?_
  rintro e w1 ⟨rfl, hB⟩
  go_wp2_with fail
  refine (H1.out _).mono ?_
  rintro e w2 ⟨rfl, hw⟩
  rw [hw]
  clear hw
  go_wp2_with fail
  refine (H2.out _).mono ?_
  rintro e w2 ⟨rfl, hw⟩
  rw [hw]
  clear hw
  go_wp2_with fail
  refine (H3.out _).mono ?_
  rintro e w2 ⟨rfl, hw⟩
  rw [hw]
  clear hw
  go_wp2_with fail
  refine (H4.out _).mono ?_
  rintro e w2 ⟨rfl, hw⟩
  rw [hw]
  clear hw
  go_wp2_with fail
  refine (H5.out _).mono ?_
  rintro e w2 ⟨rfl, hw⟩
  rw [hw]
  clear hw
  go_wp2_with fail
  refine (H6.out _).mono ?_
  rintro e w2 ⟨rfl, hw⟩
  rw [hw]
  clear hw
  go_wp2_with fail
  refine (H7.out _).mono ?_
  rintro e w2 ⟨rfl, hw⟩
  rw [hw]
  clear hw
  go_wp2_with (go_at_call 16; refine (equal_any _ _).mono ?_; rintro e w' ⟨rfl, hw⟩; rw [hw]; clear hw)
  go_ret
  exact ⟨rfl, hB⟩
theorem PulseTurns_row (re im : Nat) (a b : Int) (w : World) (_ : (Lit.int .i64 a).wf = true) (_ : (Lit.int .i64 b).wf = true) :
    Calls Try.prog 6 #[.float .f64 re, .float .f64 im, .int .i64 a, .int .i64 b] w fun e w' => e = .returned (.bool true) ∧ Below w.heap.size w w' := PulseTurns_walk re im a b w
end Go.Proofs.Ytenlkadmniobdaa
