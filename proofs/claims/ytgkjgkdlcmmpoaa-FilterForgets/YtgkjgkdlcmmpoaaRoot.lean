/- The digits of a root: plain arithmetic, and what root of package fixed returns: the greatest whole number whose square is at most the number of the two words. -/
import Derived.Test.YtgkjgkdlcmmpoaaShift
import Derived.WalkKit
import Derived.WalkSpells
import Derived.WalkLawsBesides
import Derived.Handy
import Derived.WalkMore
import Derived.Below
namespace Fx
/-- what holds ahead of the digit of 2^p -/
structure Rt (N F p : Nat) : Prop where
  mul : F % 2 ^ p = 0
  le : F * F ≤ N
  lt : N < (F + 2 ^ p) * (F + 2 ^ p)
  top : F + 2 ^ p ≤ 18446744073709551616
theorem Rt.start (N : Nat) (h : N < 340282366920938463463374607431768211456) : Rt N 0 64 := ⟨by decide, by omega, by simpa using h, by decide⟩
theorem Rt.tried {N F p : Nat} (h : Rt N F (p + 1)) : F ||| 2 ^ p = F + 2 ^ p := by
  have h1 : F = F / 2 ^ (p + 1) * 2 ^ (p + 1) := by
    have := Nat.div_add_mod' F (2 ^ (p + 1)); rw [h.mul] at this; omega
  have h2 : 2 ^ p < 2 ^ (p + 1) := Nat.pow_lt_pow_right (by decide) (by omega)
  have := Nat.shiftLeft_add_eq_or_of_lt h2 (F / 2 ^ (p + 1))
  rw [Nat.shiftLeft_eq, ← h1] at this
  exact this.symm
theorem Rt.low {N F p : Nat} (h : Rt N F (p + 1)) : F + 2 ^ p < 18446744073709551616 := by
  have := h.top
  have h2 : 2 ^ p < 2 ^ (p + 1) := Nat.pow_lt_pow_right (by decide) (by omega)
  omega
theorem Rt.yes {N F p : Nat} (h : Rt N F (p + 1)) (hc : (F + 2 ^ p) * (F + 2 ^ p) ≤ N) : Rt N (F + 2 ^ p) p := by
  have e : F + 2 ^ p + 2 ^ p = F + 2 ^ (p + 1) := by rw [Nat.pow_succ]; omega
  refine ⟨?_, hc, by rw [e]; exact h.lt, by rw [e]; exact h.top⟩
  rw [Nat.add_mod_right]
  have h1 : F = F / 2 ^ (p + 1) * 2 ^ (p + 1) := by
    have := Nat.div_add_mod' F (2 ^ (p + 1)); rw [h.mul] at this; omega
  rw [h1, Nat.pow_succ, Nat.mul_comm (2 ^ p) 2, ← Nat.mul_assoc, Nat.mul_mod_left]
theorem Rt.no {N F p : Nat} (h : Rt N F (p + 1)) (hc : N < (F + 2 ^ p) * (F + 2 ^ p)) : Rt N F p := by
  refine ⟨?_, h.le, hc, Nat.le_of_lt h.low⟩
  have h1 : F = F / 2 ^ (p + 1) * 2 ^ (p + 1) := by
    have := Nat.div_add_mod' F (2 ^ (p + 1)); rw [h.mul] at this; omega
  rw [h1, Nat.pow_succ, Nat.mul_comm (2 ^ p) 2, ← Nat.mul_assoc, Nat.mul_mod_left]
theorem Rt.done {N F : Nat} (h : Rt N F 0) : F * F ≤ N ∧ N < (F + 1) * (F + 1) ∧ F < 18446744073709551616 := ⟨h.le, h.lt, by have := h.top; omega⟩
/-- two words against two words -/
theorem cmp_words (T H L : Nat) (hL : L < 18446744073709551616) : (T / 18446744073709551616 < H ∨ T / 18446744073709551616 = H ∧ T % 18446744073709551616 ≤ L) ↔ T ≤ H * 18446744073709551616 + L := by omega
end Fx
namespace Go.Proofs.Ytgkjgkdlcmmpoaa
open Go.RowKit
theorem grown_trans {a b c : World} (h : Grown a b) (g : Grown b c) : Grown a c :=
  ⟨World.keptBut_trans h.1 (by refine World.keptBut_mono ?_ g.1; exact fun _ f => f.elim), fun x => (g.2.1 x).trans (h.2.1 x), Nat.le_trans h.2.2 g.2.2⟩
set_option maxHeartbeats 400000 in
theorem root_walk (H L : Nat) (h l : Int) (eh : Hid (h = (H : Int))) (el : Hid (l = (L : Int))) (w : World) (h0 : 0 ≤ h) (l0 : 0 ≤ l) (hH : h < 18446744073709551616) (hL : l < 18446744073709551616) :
    Calls Try.prog 48 #[.agg #[.int .u64 h, .int .u64 l]] w fun e w' => ∃ F : Nat, e = .returned (.int .u64 F) ∧ F * F ≤ H * 18446744073709551616 + L ∧ H * 18446744073709551616 + L < (F + 1) * (F + 1) ∧ F < 18446744073709551616 ∧ Grown w w' ∧ Below w.heap.size w w' := by
  obtain ⟨N, hN⟩ : ∃ N, N = H * 18446744073709551616 + L := ⟨_, rfl⟩
  rw [← hN]
  have hN' : Hid (N = H * 18446744073709551616 + L) := hN
  have hNl : Hid (N < 340282366920938463463374607431768211456) := by show _ < _; have := eh.out; have := el.out; omega
  clear hN
  go_enter Try.func48, Try.ntmps48
  go_wp2; go_step3; go_wp2; go_step3; go_wp2
  go_loop [3, 4] (fun f i => ∃ F p : Nat, f = .int .u64 (F : Int) ∧ i = .int .i64 ((p : Int) - 1) ∧ Hid (Fx.Rt N F p) ∧ (p : Int) ≤ 64) (fun _ i => (intOf i + 1).toNat)
  case atStart => exact ⟨0, 64, rfl, rfl, Fx.Rt.start N hNl.out, by omega⟩
  case round =>
    obtain ⟨F, p, rfl, rfl, hR, hp⟩ := hrel
    rcases p with _ | p
    · go_wp2
      go_ret
      obtain ⟨r1, r2, r3⟩ := hR.out.done
      exact ⟨F, rfl, r1, r2, r3, (Grown.refl _).alloc _ _, (Below.refl _ _).alloc (Nat.le_refl _) _⟩
    · obtain ⟨T, hT, hT0⟩ : ∃ T : Int, T = ((F + 2 ^ p : Nat) : Int) ∧ 0 ≤ T := ⟨_, rfl, Int.natCast_nonneg _⟩
      have hp' : p ≤ 63 := by omega
      have eT : bits .or .u64 (F : Int) (IntKind.u64.wrap (2 ^ p)) = T := by
        have h1 := hR.out.low
        have h2 := hR.out.tried
        rw [show IntKind.u64.wrap ((2 : Int) ^ p) = ((2 ^ p : Nat) : Int) from by
          rw [show (2 : Int) ^ p = ((2 ^ p : Nat) : Int) from by rw [Int.natCast_pow]; rfl, wrap_nat, Nat.mod_eq_of_lt (Nat.lt_of_le_of_lt (Nat.le_add_left _ _) h1)], bits_or_u64_nat _ _ (Nat.lt_of_le_of_lt (Nat.le_add_right _ _) h1) (Nat.lt_of_le_of_lt (Nat.le_add_left _ _) h1), h2, hT]
      have hT' : Hid (T = ((F + 2 ^ p : Nat) : Int)) := hT
      have hlow : Hid (F + 2 ^ p < 18446744073709551616) := hR.out.low
      clear hT hp'
      have hp : (p : Int) ≤ 63 := by omega
      go_wp2_with fail
      refine (mul64_int T T _ _ hT'.out hT'.out _ hlow.out hlow.out).mono ?_
      rintro e w1 ⟨rfl, hw1⟩
      subst hw1
      obtain ⟨th, hth, th0⟩ := nat_int ((F + 2 ^ p) * (F + 2 ^ p) / 18446744073709551616)
      obtain ⟨tl, htl, tl0⟩ := nat_int ((F + 2 ^ p) * (F + 2 ^ p) % 18446744073709551616)
      rw [← hth, ← htl]
      have hth' : Hid (th = (((F + 2 ^ p) * (F + 2 ^ p) / 18446744073709551616 : Nat) : Int)) := hth
      have htl' : Hid (tl = (((F + 2 ^ p) * (F + 2 ^ p) % 18446744073709551616 : Nat) : Int)) := htl
      clear hth htl
      go_wp2_with fail
      have yes : Hid (th < h ∨ th = h ∧ tl ≤ l → Fx.Rt N (F + 2 ^ p) p) := fun hc => hR.out.yes (by
        rw [hN'.out]; refine (Fx.cmp_words _ H L (by have := el.out; omega)).1 ?_
        have := hth'.out; have := htl'.out; have := eh.out; have := el.out; omega)
      have no : Hid (¬ (th < h ∨ th = h ∧ tl ≤ l) → Fx.Rt N F p) := fun hc => hR.out.no (by
        rw [hN'.out]; refine Nat.lt_of_not_le fun x => hc ?_
        have := (Fx.cmp_words _ H L (by have := el.out; omega)).2 x
        have := hth'.out; have := htl'.out; have := eh.out; have := el.out; omega)
      clear hR hlow hNl
      have i0 : ∀ (x y : Value) w, (Instr.index 79 (.agg #[x, y]) (.int .i64 0)).run Try.prog w = .ok x w := fun _ _ _ => by kernel_rfl
      have i1 : ∀ (x y : Value) w, (Instr.index 79 (.agg #[x, y]) (.int .i64 1)).run Try.prog w = .ok y w := fun _ _ _ => by kernel_rfl
      by_cases c1 : h < th
      · refine wp_loop_rounds 3 ?_
        rw [rounds_succ]
        go_wp2
        go_round
        case rel => exact ⟨F, p, rfl, by go_num, no.out (by omega), by omega⟩
        case measure => first | (simp [intOf]; done) | (simp [intOf]; omega)
      by_cases c2 : th < h
      · refine wp_loop_rounds 3 ?_
        rw [rounds_succ]
        go_wp2
        go_round
        case rel => exact ⟨F + 2 ^ p, p, by rw [hT'.out], by go_num, yes.out (Or.inl c2), by omega⟩
        case measure => first | (simp [intOf]; done) | (simp [intOf]; omega)
      obtain rfl : th = h := by omega
      by_cases c3 : l < tl
      · refine wp_loop_rounds 3 ?_
        rw [rounds_succ]
        go_wp2
        rw [rounds_succ]
        go_wp2
        go_round
        case rel => exact ⟨F, p, rfl, by go_num, no.out (by omega), by omega⟩
        case measure => first | (simp [intOf]; done) | (simp [intOf]; omega)
      by_cases c4 : tl < l
      · refine wp_loop_rounds 3 ?_
        rw [rounds_succ]
        go_wp2
        rw [rounds_succ]
        go_wp2
        go_round
        case rel => exact ⟨F + 2 ^ p, p, by rw [hT'.out], by go_num, yes.out (Or.inr ⟨by simp, by omega⟩), by omega⟩
        case measure => first | (simp [intOf]; done) | (simp [intOf]; omega)
      obtain rfl : tl = l := by omega
      refine wp_loop_rounds 3 ?_
      rw [rounds_succ]
      go_wp2
      rw [rounds_succ]
      go_wp2
      rw [rounds_succ]
      go_wp2
      go_round
      case rel => exact ⟨F + 2 ^ p, p, by rw [hT'.out], by go_num, yes.out (Or.inr ⟨by simp, by omega⟩), by omega⟩
      case measure => first | (simp [intOf]; done) | (simp [intOf]; omega)
theorem root_any (h l : Int) (H L : Nat) (eh : h = (H : Int)) (el : l = (L : Int)) (w : World) (hH : H < 18446744073709551616) (hL : L < 18446744073709551616) :
    Calls Try.prog 48 #[.agg #[.int .u64 h, .int .u64 l]] w fun e w' => ∃ F : Nat, e = .returned (.int .u64 F) ∧ F * F ≤ H * 18446744073709551616 + L ∧ H * 18446744073709551616 + L < (F + 1) * (F + 1) ∧ F < 18446744073709551616 ∧ Grown w w' :=
  (root_walk H L h l eh el w (by omega) (by omega) (by omega) (by omega)).mono fun _ _ ⟨F, h1, h2, h3, h4, h5, _⟩ => ⟨F, h1, h2, h3, h4, h5⟩
theorem root_below (h l : Int) (H L : Nat) (eh : h = (H : Int)) (el : l = (L : Int)) (w : World) (hH : H < 18446744073709551616) (hL : L < 18446744073709551616) :
    Calls Try.prog 48 #[.agg #[.int .u64 h, .int .u64 l]] w fun e w' => ∃ F : Nat, e = .returned (.int .u64 F) ∧ F * F ≤ H * 18446744073709551616 + L ∧ H * 18446744073709551616 + L < (F + 1) * (F + 1) ∧ F < 18446744073709551616 ∧ Below w.heap.size w w' :=
  (root_walk H L h l eh el w (by omega) (by omega) (by omega) (by omega)).mono fun _ _ ⟨F, h1, h2, h3, h4, _, h5⟩ => ⟨F, h1, h2, h3, h4, h5⟩
end Go.Proofs.Ytgkjgkdlcmmpoaa
