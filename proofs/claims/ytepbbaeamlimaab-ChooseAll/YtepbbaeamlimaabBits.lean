/- What math/bits.Mul64, Len64 and LeadingZeros64 return, for every input (the products high and low words; the number of bits). -/
import Derived.Test.YtepbbaeamlimaabRows
import Derived.WalkKit
import Derived.WalkSpells
import Derived.WalkLawsBesides
import Derived.Laws.MathBits
namespace Go.Proofs.Ytepbbaeamlimaab
open Go.RowKit
theorem ret2_u64 {a b c d : Int} (h : a = c) (h' : b = d) : Ending.returned (.tuple #[.int .u64 a, .int .u64 b]) = .returned (.tuple #[.int .u64 c, .int .u64 d]) := by rw [h, h']
theorem ret_i64 {a b : Int} (h : a = b) : Ending.returned (.int .i64 a) = .returned (.int .i64 b) := by rw [h]
theorem w64 (a b : Int) (h0 : 0 ≤ a) (h1 : a ≤ 56) (h2 : 0 ≤ b) (h3 : b ≤ 8) : wrap64 (a + wrap64 b) = a + b := by
  rw [show wrap64 b = b from by rw [wrap64]; omega, wrap64]; omega
theorem w64' (b : Int) (h2 : 0 ≤ b) (h3 : b ≤ 8) : wrap64 (wrap64 b) = b := by
  rw [show wrap64 b = b from by rw [wrap64]; omega, wrap64]; omega
theorem len_way (s P X Q : Nat) (hP : P = 2 ^ s) (hs : s ≤ 56) (h0 : 1 ≤ Q) (h1 : Q < 256) (hq : Q = X / P) : wrap64 ((s : Int) + wrap64 (bitLen Q : Int)) = bitLen X := by
  subst hP hq
  rw [bitLen_shift X s (Nat.pos_iff_ne_zero.1 h0)]
  have l := bitLen_le8 _ h1
  generalize bitLen (X / 2 ^ s) = n at *
  rw [w64 _ _ (Int.natCast_nonneg _) (by omega) (Int.natCast_nonneg _) (by omega), Int.natCast_add]
theorem len_low (Q : Nat) (h1 : Q < 256) : wrap64 (wrap64 (bitLen Q : Int)) = bitLen Q := by
  have l := bitLen_le8 _ h1
  exact w64' _ (Int.natCast_nonneg _) (by omega)
theorem bl_le (x : Int) (h0 : 0 ≤ x) (h1 : x < 18446744073709551616) : bitLen x.toNat ≤ 64 := by
  unfold bitLen
  split
  · omega
  · rename_i h
    have := (Nat.log2_lt h).2 (show x.toNat < 2 ^ 64 from by omega)
    omega
end Go.Proofs.Ytepbbaeamlimaab
