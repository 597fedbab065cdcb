/- What quotient returns, for every input: the product divided down, cut at a limit either way. -/
import Derived.Test.YtdmaaigchfgmdaaFixA
import Derived.WalkKit
import Derived.WalkSpells
import Derived.WalkLawsBesides
namespace Go.Proofs.Ytdmaaigchfgmdaa
open Go.RowKit
theorem w_drew (w : World) (n : Nat) : ∃ k, w.drewN n = w.drewN k := ⟨n, rfl⟩
theorem div64_int (hi lo y : Int) (H L Y : Nat) (hH : hi = H) (hL : lo = L) (hY : y = Y) (w : World) (h : H < Y) (hl : L < 18446744073709551616) (hy : Y < 18446744073709551616) :
    Calls Try.prog 94 #[.int .u64 hi, .int .u64 lo, .int .u64 y] w fun e w' => e = .returned (.tuple #[.int .u64 (((H * 18446744073709551616 + L) / Y : Nat) : Int), .int .u64 (((H * 18446744073709551616 + L) % Y : Nat) : Int)]) ∧ ∃ n, w' = w.drewN n := by
  rw [hH, hL, hY]
  exact div64_any H L Y w h hl hy
theorem mul64_int (x y : Int) (X Y : Nat) (hX : x = X) (hY : y = Y) (w : World) (hx : X < 18446744073709551616) (hy : Y < 18446744073709551616) :
    Calls Try.prog 92 #[.int .u64 x, .int .u64 y] w fun e w' => e = .returned (.tuple #[.int .u64 ((X * Y / 18446744073709551616 : Nat) : Int), .int .u64 ((X * Y % 18446744073709551616 : Nat) : Int)]) ∧ w' = w := by
  rw [hX, hY]
  exact mul64_nat X Y w hx hy
theorem nat_int (n : Nat) : ∃ x : Int, x = (n : Int) ∧ 0 ≤ x := ⟨n, rfl, Int.natCast_nonneg n⟩
set_option maxHeartbeats 2000000 in
theorem quotS_walk (a b m d : Int) (D : Nat) (hD : d = D) (w : World) (bl : Bool) (hbl : (a < 0 ∧ b < 0 ∧ bl = false) ∨ (a < 0 ∧ ¬ b < 0 ∧ bl = true) ∨ (¬ a < 0 ∧ b < 0 ∧ bl = true) ∨ (¬ a < 0 ∧ ¬ b < 0 ∧ bl = false)) (ha0 : -9223372036854775808 ≤ a) (ha1 : a ≤ 9223372036854775807) (hb0 : -9223372036854775808 ≤ b) (hb1 : b ≤ 9223372036854775807)
    (hd0 : 0 < d) (hd1 : d ≤ 9223372036854775807) (h0 : 0 ≤ m) (h1 : m ≤ 4611686018427387904) :
    Calls Try.prog 91 #[.int .i64 a, .int .i64 b, .int .i64 d, .int .i64 m] w fun e w' => e = .returned (.int .i64 (Fx.qs bl (a.natAbs * b.natAbs) D m)) ∧ ∃ n, w' = w.drewN n := by
  have hD' : Hid (d = D) := hD
  clear hD
  obtain ⟨P, hP⟩ : ∃ P, P = a.natAbs * b.natAbs := ⟨_, rfl⟩
  rw [← hP]
  have hP' : Hid (P = a.natAbs * b.natAbs) := hP
  clear hP
  rcases hbl with ⟨ha, hb, rfl⟩ | ⟨ha, hb, rfl⟩ | ⟨ha, hb, rfl⟩ | ⟨ha, hb, rfl⟩
  all_goals
    go_enter Try.func91, Try.ntmps91
    go_wp2_with fail
    refine (size_any a _ ha0 ha1).mono ?_
    rintro e w1 ⟨rfl, rfl⟩
    obtain ⟨A, hA, hA0⟩ := nat_int a.natAbs
    rw [← hA]
    have hA' : Hid (A = (a.natAbs : Int)) := hA
    clear hA
    go_wp2_with fail
    refine (size_any b _ hb0 hb1).mono ?_
    rintro e w1 ⟨rfl, rfl⟩
    obtain ⟨B, hB, hB0⟩ := nat_int b.natAbs
    rw [← hB]
    have hB' : Hid (B = (b.natAbs : Int)) := hB
    clear hB
    go_wp2_with fail
    refine (mul64_int A B _ _ hA'.out hB'.out _ (by omega) (by omega)).mono ?_
    rintro e w1 ⟨rfl, rfl⟩
    rw [← hP'.out]
    obtain ⟨hi, hhi, hi0⟩ := nat_int (P / 18446744073709551616)
    obtain ⟨lo, hlo, lo0⟩ := nat_int (P % 18446744073709551616)
    rw [← hhi, ← hlo]
    have hlol : lo < 18446744073709551616 := by omega
    have hhi' : Hid (hi = ((P / 18446744073709551616 : Nat) : Int)) := hhi
    have hlo' : Hid (lo = ((P % 18446744073709551616 : Nat) : Int)) := hlo
    clear hhi hlo
    by_cases hc : hi < d
    · go_wp2_with fail
      refine (div64_int hi lo d _ _ _ hhi'.out hlo'.out hD'.out _ (by have := hhi'.out; have := hD'.out; omega) (by have := hlo'.out; omega) (by have := hD'.out; omega)).mono ?_
      rintro e w2 ⟨rfl, n, rfl⟩
      rw [Fx.words P]
      obtain ⟨q, hq, q0⟩ := nat_int (P / D)
      obtain ⟨r, hr, r0⟩ := nat_int (P % D)
      rw [← hq, ← hr]
      have hq' : Hid (q = ((P / D : Nat) : Int)) := hq
      have hr' : Hid (r = ((P % D : Nat) : Int)) := hr
      clear hq hr
      by_cases hm : q < m
      · by_cases hrp : 0 < r
        all_goals
          go_wp2
          go_ret
          refine ⟨ret_i64 ?_, w_drew _ _⟩
          have dd := hD'.out
          have rr := hr'.out
          rw [hq'.out] at hm ⊢
          first
            | exact (Fx.qs_up P D m hm).symm
            | exact (Fx.qs_dn1 P D m (by omega) hm (by omega)).symm
            | exact (Fx.qs_dn0 P D m (by omega) hm (by omega)).symm
      · go_wp2
        go_ret
        refine ⟨ret_i64 ?_, w_drew _ _⟩
        have dd := hD'.out
        rw [hq'.out] at hm
        rw [Fx.qs_far _ P D m (by omega) h0 (by omega)]; rfl
    · go_wp2
      go_ret
      refine ⟨ret_i64 ?_, 0, rfl⟩
      have dd := hD'.out
      have hh := hhi'.out
      have := Fx.quo_big P D (by omega) (by omega)
      rw [Fx.qs_far _ P D m (by omega) h0 (by omega)]; rfl

theorem quotS_any (a b d m : Int) (w : World) (ha0 : -9223372036854775808 ≤ a) (ha1 : a ≤ 9223372036854775807) (hb0 : -9223372036854775808 ≤ b) (hb1 : b ≤ 9223372036854775807)
    (hd0 : 0 < d) (hd1 : d ≤ 9223372036854775807) (h0 : 0 ≤ m) (h1 : m ≤ 4611686018427387904) :
    Calls Try.prog 91 #[.int .i64 a, .int .i64 b, .int .i64 d, .int .i64 m] w fun e w' => e = .returned (.int .i64 (Fx.cl m (a * b / d))) ∧ ∃ n, w' = w.drewN n := by
  obtain ⟨D, hD⟩ := Int.eq_ofNat_of_zero_le (Int.le_of_lt hd0)
  by_cases hs : a < 0 ↔ b < 0
  · rw [show Fx.cl m (a * b / d) = Fx.cl m (a * b / (D : Int)) from by rw [hD], Fx.qs_same hs]
    refine quotS_walk a b m d D hD w false ?_ ha0 ha1 hb0 hb1 hd0 hd1 h0 h1
    by_cases ha : a < 0
    · exact Or.inl ⟨ha, hs.1 ha, rfl⟩
    · exact Or.inr (Or.inr (Or.inr ⟨ha, fun x => ha (hs.2 x), rfl⟩))
  · rw [show Fx.cl m (a * b / d) = Fx.cl m (a * b / (D : Int)) from by rw [hD], Fx.qs_other hs]
    refine quotS_walk a b m d D hD w true ?_ ha0 ha1 hb0 hb1 hd0 hd1 h0 h1
    by_cases ha : a < 0
    · exact Or.inr (Or.inl ⟨ha, fun x => hs ⟨fun _ => x, fun _ => ha⟩, rfl⟩)
    · exact Or.inr (Or.inr (Or.inl ⟨ha, Decidable.byContradiction fun x => hs ⟨fun y => absurd y ha, fun y => absurd y x⟩, rfl⟩))
end Go.Proofs.Ytdmaaigchfgmdaa
