/- The digits of a root: plain arithmetic, and what root of package fixed returns: the greatest whole number whose square is at most the number of the two words. -/
import Derived.Test.YtlggademcmkihaaShift
import Derived.WalkKit
import Derived.WalkSpells
import Derived.WalkLawsBesides
import Derived.Handy
import Derived.WalkMore
import Derived.Below
namespace Fx
/-- what holds ahead of the digit of 2^p -/
structure Rt (N F p : Nat) : Prop where
  mul : F % 2 ^ p = 0
  le : F * F ≤ N
  lt : N < (F + 2 ^ p) * (F + 2 ^ p)
  top : F + 2 ^ p ≤ 18446744073709551616
theorem Rt.start (N : Nat) (h : N < 340282366920938463463374607431768211456) : Rt N 0 64 := ⟨by decide, by omega, by simpa using h, by decide⟩
theorem Rt.tried {N F p : Nat} (h : Rt N F (p + 1)) : F ||| 2 ^ p = F + 2 ^ p := by
  have h1 : F = F / 2 ^ (p + 1) * 2 ^ (p + 1) := by
    have := Nat.div_add_mod' F (2 ^ (p + 1)); rw [h.mul] at this; omega
  have h2 : 2 ^ p < 2 ^ (p + 1) := Nat.pow_lt_pow_right (by decide) (by omega)
  have := Nat.shiftLeft_add_eq_or_of_lt h2 (F / 2 ^ (p + 1))
  rw [Nat.shiftLeft_eq, ← h1] at this
  exact this.symm
theorem Rt.low {N F p : Nat} (h : Rt N F (p + 1)) : F + 2 ^ p < 18446744073709551616 := by
  have := h.top
  have h2 : 2 ^ p < 2 ^ (p + 1) := Nat.pow_lt_pow_right (by decide) (by omega)
  omega
theorem Rt.yes {N F p : Nat} (h : Rt N F (p + 1)) (hc : (F + 2 ^ p) * (F + 2 ^ p) ≤ N) : Rt N (F + 2 ^ p) p := by
  have e : F + 2 ^ p + 2 ^ p = F + 2 ^ (p + 1) := by rw [Nat.pow_succ]; omega
  refine ⟨?_, hc, by rw [e]; exact h.lt, by rw [e]; exact h.top⟩
  rw [Nat.add_mod_right]
  have h1 : F = F / 2 ^ (p + 1) * 2 ^ (p + 1) := by
    have := Nat.div_add_mod' F (2 ^ (p + 1)); rw [h.mul] at this; omega
  rw [h1, Nat.pow_succ, Nat.mul_comm (2 ^ p) 2, ← Nat.mul_assoc, Nat.mul_mod_left]
theorem Rt.no {N F p : Nat} (h : Rt N F (p + 1)) (hc : N < (F + 2 ^ p) * (F + 2 ^ p)) : Rt N F p := by
  refine ⟨?_, h.le, hc, Nat.le_of_lt h.low⟩
  have h1 : F = F / 2 ^ (p + 1) * 2 ^ (p + 1) := by
    have := Nat.div_add_mod' F (2 ^ (p + 1)); rw [h.mul] at this; omega
  rw [h1, Nat.pow_succ, Nat.mul_comm (2 ^ p) 2, ← Nat.mul_assoc, Nat.mul_mod_left]
theorem Rt.done {N F : Nat} (h : Rt N F 0) : F * F ≤ N ∧ N < (F + 1) * (F + 1) ∧ F < 18446744073709551616 := ⟨h.le, h.lt, by have := h.top; omega⟩
/-- two words against two words -/
theorem cmp_words (T H L : Nat) (hL : L < 18446744073709551616) : (T / 18446744073709551616 < H ∨ T / 18446744073709551616 = H ∧ T % 18446744073709551616 ≤ L) ↔ T ≤ H * 18446744073709551616 + L := by omega
end Fx
namespace Go.Proofs.Ytlggademcmkihaa
open Go.RowKit
theorem grown_trans {a b c : World} (h : Grown a b) (g : Grown b c) : Grown a c :=
  ⟨World.keptBut_trans h.1 (by refine World.keptBut_mono ?_ g.1; exact fun _ f => f.elim), fun x => (g.2.1 x).trans (h.2.1 x), Nat.le_trans h.2.2 g.2.2⟩
end Go.Proofs.Ytlggademcmkihaa
