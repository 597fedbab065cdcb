/- Math/bits.Div64 returns quotient and rest of the number in two words, where the high word is above 0 and below the divisor. -/
import Derived.Test.YtepbbaeamlimaabDivm
import Derived.WalkKit
import Derived.WalkSpells
import Derived.WalkLawsBesides
import Derived.Deep.CutBlock
import Derived.Deep.DeepCutAuto
namespace Go.Proofs.Ytepbbaeamlimaab
open Go.RowKit FxDiv
theorem wrap_nat (a : Nat) : IntKind.u64.wrap (a : Int) = ((a % 18446744073709551616 : Nat) : Int) := by rw [IntKind.wrap_u64]; omega
theorem wrap_shl (a s : Nat) : IntKind.u64.wrap ((a : Int) * 2 ^ s) = ((a * 2 ^ s % 18446744073709551616 : Nat) : Int) := by
  rw [show (a : Int) * 2 ^ s = ((a * 2 ^ s : Nat) : Int) from by rw [Int.natCast_mul, Int.natCast_pow]; rfl, wrap_nat]
theorem start_q (u y1 : Nat) (hu : u < 18446744073709551616) : IntKind.u64.wrap ((u : Int) / (y1 : Int)) = ((u / y1 : Nat) : Int) := by
  rw [← Int.natCast_ediv, wrap_nat, Nat.mod_eq_of_lt (Nat.lt_of_le_of_lt (Nat.div_le_self u y1) hu)]
theorem start_r (u y1 : Nat) (hu : u < 18446744073709551616) : IntKind.u64.wrap ((u : Int) - IntKind.u64.wrap (IntKind.u64.wrap ((u : Int) / (y1 : Int)) * (y1 : Int))) = ((u % y1 : Nat) : Int) := by
  rw [start_q u y1 hu, ← Int.natCast_mul, wrap_nat]
  have h1 : u / y1 * y1 ≤ u := Nat.div_mul_le_self u y1
  have h2 : u / y1 * y1 + u % y1 = u := Nat.div_add_mod' u y1
  rw [Nat.mod_eq_of_lt (by omega), IntKind.wrap_u64]
  omega
/-- a rest, reckoned with wraps -/
theorem rest_u64 (u d q Y R : Nat) (hR : R < 18446744073709551616) (h : u * 4294967296 + d = q * Y + R) :
    IntKind.u64.wrap (IntKind.u64.wrap (IntKind.u64.wrap ((u : Int) * 4294967296) + (d : Int)) - IntKind.u64.wrap ((q : Int) * (Y : Int))) = (R : Int) := by
  rw [← Int.natCast_mul]
  generalize q * Y = p at *
  simp only [IntKind.wrap_u64]
  omega
theorem div_fin (hi lo y s Y u L d1 d0 q1 R q0 R0 : Nat) (hs : s ≤ 63) (hY : Y = y * 2 ^ s) (hu : u = hi * 2 ^ s + lo / 2 ^ (64 - s)) (hL : L = lo * 2 ^ s % 18446744073709551616)
    (hLs : L = d1 * 4294967296 + d0) (h1 : u * 4294967296 + d1 = q1 * Y + R) (h0 : R * 4294967296 + d0 = q0 * Y + R0) (hR : R0 < Y) :
    (q1 : Int) * 4294967296 + (q0 : Int) = (((hi * 18446744073709551616 + lo) / y : Nat) : Int) ∧ (R0 : Int) / 2 ^ s = (((hi * 18446744073709551616 + lo) % y : Nat) : Int) := by
  obtain ⟨t1, t2⟩ := two Y u d1 d0 q1 R q0 R0 h1 h0 hR
  rw [← hLs, hL, hu, ← words hi lo s (by omega), hY] at t1 t2
  obtain ⟨s1, s2⟩ := shifted (hi * 18446744073709551616 + lo) y s
  rw [t1] at s1
  rw [t2] at s2
  rw [← s1, ← s2, Int.natCast_add, Int.natCast_mul, Int.natCast_ediv, Int.natCast_pow]
  exact ⟨rfl, rfl⟩
end Go.Proofs.Ytepbbaeamlimaab
