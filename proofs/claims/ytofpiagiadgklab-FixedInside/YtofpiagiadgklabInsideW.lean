/- Called with any four numbers FixedInside returns true. -/
import Derived.Test.YtofpiagiadgklabRootF
import Derived.WalkKit
import Derived.ProofKit
import Derived.OpenShut
import Derived.WalkSpells
import Derived.WalkLawsBesides
namespace Fx
theorem sh_bd (a n : Int) (h0 : -9223372036854775808 ≤ a) (h1 : a ≤ 9223372036854775807) : -4611686018427387904 ≤ sh a n ∧ sh a n ≤ 4611686018427387904 := by
  unfold sh
  split
  · rename_i hn
    obtain ⟨k, hk⟩ : ∃ k, (min (-n) 63).toNat = k + 1 := ⟨(min (-n) 63).toNat - 1, by omega⟩
    rw [hk, Int.pow_succ, Int.mul_comm, ← Int.ediv_ediv_of_nonneg (by decide)]
    have hp : (0 : Int) < 2 ^ k := Int.pow_pos (by decide)
    have h2 : -4611686018427387904 ≤ a / 2 ∧ a / 2 ≤ 4611686018427387903 := by omega
    generalize a / 2 = b at *
    constructor
    · refine Int.le_ediv_of_mul_le hp ?_
      have := Int.mul_le_mul_of_nonneg_left (show 1 ≤ (2 : Int) ^ k by omega) (show (0 : Int) ≤ 4611686018427387904 by decide)
      rw [Int.neg_mul]; omega
    · have h3 : b / 2 ^ k < 4611686018427387905 := by
        refine Int.ediv_lt_of_lt_mul hp ?_
        have := Int.mul_le_mul_of_nonneg_left (show 1 ≤ (2 : Int) ^ k by omega) (show (0 : Int) ≤ 4611686018427387905 by decide)
        omega
      omega
  · exact cl_bd (by decide) _
theorem sh_zero (a : Int) (h0 : -4611686018427387904 ≤ a) (h1 : a ≤ 4611686018427387904) : sh a 0 = a := by
  unfold sh
  rw [if_neg (by decide), show (0 : Int).toNat = 0 from rfl, Int.pow_zero, Int.mul_one]
  exact cl_in h0 h1
theorem root_small (F A : Nat) (h : F * F ≤ A * 4294967296) (hA : A < 9223372036854775808) : F < 4611686018427387904 := by
  refine Nat.lt_of_not_le fun x => ?_
  have := Nat.mul_le_mul x x
  omega
end Fx
namespace Go.Proofs.Ytofpiagiadgklab
open Go.RowKit
/-- what comes out is a number that a span may be, and nothing that was there is turned -/
def Spanned (f : Nat) (args : Array Value) (w : World) : Prop := Calls Try.prog f args w fun e w' => ∃ x : Int, e = .returned (.int .i64 x) ∧ -4611686018427387904 ≤ x ∧ x ≤ 4611686018427387904 ∧ Grown w w'
theorem in_same {f : Nat} {args : Array Value} {w : World} {x : Int} (h : Calls Try.prog f args w fun e w' => e = .returned (.int .i64 x) ∧ w' = w) (b : -4611686018427387904 ≤ x ∧ x ≤ 4611686018427387904) : Spanned f args w := by
  refine h.mono ?_
  rintro e w' ⟨rfl, rfl⟩
  exact ⟨x, rfl, b.1, b.2, Grown.refl _⟩
theorem in_drew {f : Nat} {args : Array Value} {w : World} {x : Int} (h : Calls Try.prog f args w fun e w' => e = .returned (.int .i64 x) ∧ ∃ n, w' = w.drewN n) (b : -4611686018427387904 ≤ x ∧ x ≤ 4611686018427387904) : Spanned f args w := by
  refine h.mono ?_
  rintro e w' ⟨rfl, n, rfl⟩
  exact ⟨x, rfl, b.1, b.2, grown_drewN _ _⟩
theorem in_scale (a n d : Int) (w : World) (ha0 : -9223372036854775808 ≤ a) (ha1 : a ≤ 9223372036854775807) (hb0 : -9223372036854775808 ≤ n) (hb1 : n ≤ 9223372036854775807) (hd1 : d ≤ 9223372036854775807) : Spanned 10 #[.int .i64 a, .int .i64 n, .int .i64 d] w := by
  refine in_drew (scale_any a n d w ha0 ha1 hb0 hb1 hd1) ?_
  split
  · decide
  · exact Fx.cl_bd (by decide) _
theorem in_clamp (a m : Int) (w : World) : Spanned 15 #[.int .i64 a, .int .i64 m] w := by
  refine in_same (clamp_any a m w) ?_
  split
  · decide
  · have := Fx.cl_bd (m := min m 4611686018427387904) (by omega) a
    omega
theorem in_root (a : Int) (w : World) (ha1 : a ≤ 9223372036854775807) : Spanned 12 #[.int .i64 a] w := by
  by_cases h : a ≤ 0
  · exact in_same (Root_zero a w h) (by decide)
  · obtain ⟨A, hA⟩ := Int.eq_ofNat_of_zero_le (show 0 ≤ a by omega)
    refine (Root_pos a A hA w (by omega) ha1).mono ?_
    rintro e w' ⟨F, rfl, f1, f2, f3, hg⟩
    have := Fx.root_small F A f1 (by omega)
    exact ⟨F, rfl, by omega, by omega, hg⟩
set_option maxHeartbeats 400000 in
theorem spans_in (x : Int) (w : World) (h0 : -4611686018427387904 ≤ x) (h1 : x ≤ 4611686018427387904) :
    Calls Try.prog 16 #[.int .i64 x] w fun e w' => e = .returned (.bool true) ∧ w' = w := by
  go_enter Try.func16, Try.ntmps16
  go_wp2
  all_goals
    go_ret
    exact ⟨ret_bool (by first | rfl | (simp; omega)), rfl⟩
set_option maxHeartbeats 400000 in
theorem spans_out (x : Int) (w : World) (h : x < -4611686018427387904 ∨ 4611686018427387904 < x) :
    Calls Try.prog 16 #[.int .i64 x] w fun e w' => e = .returned (.bool false) ∧ w' = w := by
  go_enter Try.func16, Try.ntmps16
  go_wp2
  all_goals
    go_ret
    exact ⟨ret_bool (by first | rfl | (simp; omega)), rfl⟩
set_option maxHeartbeats 1000000 in
theorem FixedInside_walk (a0 : Int) (a1 : Int) (a2 : Int) (a3 : Int) (w0 : (Lit.int .i64 a0).wf = true) (w1 : (Lit.int .i64 a1).wf = true) (w2 : (Lit.int .i64 a2).wf = true) (w3 : (Lit.int .i64 a3).wf = true) (w : World) :
    Calls Try.prog 3 #[.int .i64 a0, .int .i64 a1, .int .i64 a2, .int .i64 a3] w fun e w' => e = .returned (.bool true) ∧ Grown w w' := by
  obtain ⟨a00, a01⟩ := bounds_i64 w0
  obtain ⟨a10, a11⟩ := bounds_i64 w1
  obtain ⟨a20, a21⟩ := bounds_i64 w2
  obtain ⟨a30, a31⟩ := bounds_i64 w3
  clear w0 w1 w2 w3
  go_enter Try.func3, Try.ntmps3
  go_wp2_with fail
  refine (in_same (add_any a0 a1 _ a00 a01 a10 a11) (Fx.cl_bd (by decide) _)).mono ?_
  rintro e v1 ⟨x0, rfl, x00, x01, g1⟩
  have hg1 : Hid (Grown w v1) := g1
  clear g1
  go_wp2_with fail
  refine (in_same (sub_any a0 a1 _ a00 a01 a10 a11) (Fx.cl_bd (by decide) _)).mono ?_
  rintro e v2 ⟨x1, rfl, x10, x11, g1⟩
  have hg2 : Hid (Grown w v2) := grown_trans hg1.out g1
  clear g1 hg1
  go_wp2_with fail
  refine (in_same (mean_any a0 a1 _ a00 a01 a10 a11) (Fx.cl_bd (by decide) _)).mono ?_
  rintro e v3 ⟨x2, rfl, x20, x21, g1⟩
  have hg3 : Hid (Grown w v3) := grown_trans hg2.out g1
  clear g1 hg2
  go_wp2_with fail
  refine (in_drew (mul_any a0 a1 _ a00 a01 a10 a11) (Fx.cl_bd (by decide) _)).mono ?_
  rintro e v4 ⟨x3, rfl, x30, x31, g1⟩
  have hg4 : Hid (Grown w v4) := grown_trans hg3.out g1
  clear g1 hg3
  go_wp2_with fail
  refine (in_scale a0 a2 _ _ a00 a01 a20 a21 (by first | omega | (rw [wrap64]; omega))).mono ?_
  rintro e v5 ⟨x4, rfl, x40, x41, g1⟩
  have hg5 : Hid (Grown w v5) := grown_trans hg4.out g1
  clear g1 hg4
  go_wp2_with fail
  refine (in_same (shift_any a0 a2 _ a20 a21) (Fx.sh_bd a0 a2 a00 a01)).mono ?_
  rintro e v6 ⟨x5, rfl, x50, x51, g1⟩
  have hg6 : Hid (Grown w v6) := grown_trans hg5.out g1
  clear g1 hg5
  go_wp2_with fail
  refine (in_root a0 _ a01).mono ?_
  rintro e v7 ⟨x6, rfl, x60, x61, g1⟩
  have hg7 : Hid (Grown w v7) := grown_trans hg6.out g1
  clear g1 hg6
  go_wp2_with fail
  refine (in_same (power_any a2 _ a20 a21) (Fx.sh_bd _ a2 (by decide) (by decide))).mono ?_
  rintro e v8 ⟨x7, rfl, x70, x71, g1⟩
  have hg8 : Hid (Grown w v8) := grown_trans hg7.out g1
  clear g1 hg7
  go_wp2_with fail
  refine (in_drew (drift_any a3 a0 _ a30 a31 a00 a01) (Fx.cl_bd (by decide) _)).mono ?_
  rintro e v9 ⟨x8, rfl, x80, x81, g1⟩
  have hg9 : Hid (Grown w v9) := grown_trans hg8.out g1
  clear g1 hg8
  go_wp2_with fail
  refine (in_clamp a0 a1 _).mono ?_
  rintro e v ⟨x9, rfl, x90, x91, g1⟩
  have hg : Hid (Grown w v) := grown_trans hg9.out g1
  clear g1 hg9
  go_wp2_with fail
  refine wp_loop_rounds 11 ?_
  iterate 11 (rw [rounds_succ]; go_wp2_with (go_at_call 16; refine (spans_in _ _ (by omega) (by omega)).mono ?_; rintro e w' ⟨rfl, hw⟩; subst hw))
  clear x00 x01 x10 x11 x20 x21 x30 x31 x40 x41 x50 x51 x60 x61 x70 x71 x80 x81 x90 x91
  refine (rate_any a0 a1 _ a00 a01 a11).mono ?_
  rintro e v3 ⟨rfl, k, rfl⟩
  obtain ⟨r, hr⟩ : ∃ r, r = (if a1 ≤ 0 then 0 else Fx.cl 140737488355 (a0 * 281474976710656 / a1)) := ⟨_, rfl⟩
  rw [← hr]
  have hrb : -140737488355 ≤ r ∧ r ≤ 140737488355 := by
    rw [hr]; split
    · decide
    · exact Fx.cl_bd (by decide) _
  clear hr
  have er : Fx.cl 140737488355 r = r := Fx.cl_in hrb.1 hrb.2
  obtain ⟨r0, r1⟩ := hrb
  go_wp2_with fail
  refine (cut_any r _).mono ?_
  rintro e v3 ⟨rfl, hw⟩
  subst hw
  rw [er]
  clear er
  by_cases hin : -4611686018427387904 ≤ a0 ∧ a0 ≤ 4611686018427387904
  · obtain ⟨i0, i1⟩ := hin
    have e1 : Fx.cl 4611686018427387904 a0 = a0 := Fx.cl_in i0 i1
    have e2 : Fx.cl 4611686018427387904 (-a0) = -a0 := Fx.cl_in (by omega) (by omega)
    go_wp2_with fail
    refine (spans_in a0 _ i0 i1).mono ?_
    rintro e v3 ⟨rfl, hw⟩
    subst hw
    go_wp2_with fail
    refine (add_any a0 0 _ a00 a01 (by decide) (by decide)).mono ?_
    rintro e v3 ⟨rfl, hw⟩
    subst hw
    rw [Int.add_zero, e1]
    go_wp2_with fail
    refine (clamp_any a0 4611686018427387904 _).mono ?_
    rintro e v3 ⟨rfl, hw⟩
    subst hw
    rw [if_neg (by decide), Int.min_self, e1]
    go_wp2_with fail
    refine (neg_any a0 _ a00 a01).mono ?_
    rintro e v3 ⟨rfl, hw⟩
    subst hw
    rw [e2]
    go_wp2_with fail
    refine (neg_any (-a0) _ (by omega) (by omega)).mono ?_
    rintro e v3 ⟨rfl, hw⟩
    subst hw
    rw [Int.neg_neg, e1]
    go_wp2_with fail
    refine (shift_any a0 0 _ (by decide) (by decide)).mono ?_
    rintro e v3 ⟨rfl, hw⟩
    subst hw
    rw [Fx.sh_zero a0 i0 i1]
    go_wp2_with fail
    refine (mul_any a0 4294967296 _ a00 a01 (by decide) (by decide)).mono ?_
    rintro e v3 ⟨rfl, k2, hw⟩
    subst hw
    rw [Int.mul_ediv_cancel _ (by decide), e1]
    go_wp2
    go_ret
    refine ⟨ret_bool (by first | rfl | simp), ?_⟩
    exact grown_trans hg.out (grown_trans ((Grown.refl _).alloc _ _) (grown_drewN _ _))
  · go_wp2_with fail
    refine (spans_out a0 _ (by omega)).mono ?_
    rintro e v3 ⟨rfl, hw⟩
    subst hw
    go_wp2
    go_ret
    refine ⟨ret_bool (by first | rfl | simp), ?_⟩
    exact grown_trans hg.out (grown_trans ((Grown.refl _).alloc _ _) (grown_drewN _ _))
end Go.Proofs.Ytofpiagiadgklab
