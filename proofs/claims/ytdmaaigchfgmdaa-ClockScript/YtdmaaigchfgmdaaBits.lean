/- What math/bits.Mul64, Len64 and LeadingZeros64 return, for every input (the products high and low words; the number of bits). -/
import Derived.Test.YtdmaaigchfgmdaaRows
import Derived.WalkKit
import Derived.WalkSpells
import Derived.WalkLawsBesides
import Derived.Laws.MathBits
namespace Go.Proofs.Ytdmaaigchfgmdaa
open Go.RowKit
theorem ret2_u64 {a b c d : Int} (h : a = c) (h' : b = d) : Ending.returned (.tuple #[.int .u64 a, .int .u64 b]) = .returned (.tuple #[.int .u64 c, .int .u64 d]) := by rw [h, h']
theorem ret_i64 {a b : Int} (h : a = b) : Ending.returned (.int .i64 a) = .returned (.int .i64 b) := by rw [h]
set_option maxHeartbeats 400000 in
theorem mul64_any (x y : Int) (w : World) (hx0 : 0 ≤ x) (hx : x < 18446744073709551616) (hy0 : 0 ≤ y) (hy : y < 18446744073709551616) :
    Calls Try.prog 92 #[.int .u64 x, .int .u64 y] w fun e w' => e = .returned (.tuple #[.int .u64 (x * y / 18446744073709551616), .int .u64 (x * y % 18446744073709551616)]) ∧ w' = w := by
  go_enter Try.func92, Try.ntmps92
  go_wp2
  go_ret2
  refine ⟨ret2_u64 ?_ ?_, rfl⟩
  · rw [and_low32 x hx0 hx, and_low32 y hy0 hy, and_low32 _ (by rw [IntKind.wrap_u64]; omega) (by rw [IntKind.wrap_u64]; omega)]
    simp only [IntKind.wrap_u64]
    exact mul64_arith x y hx0 hx hy0 hy
  · rw [IntKind.wrap_u64]
theorem w64 (a b : Int) (h0 : 0 ≤ a) (h1 : a ≤ 56) (h2 : 0 ≤ b) (h3 : b ≤ 8) : wrap64 (a + wrap64 b) = a + b := by
  rw [show wrap64 b = b from by rw [wrap64]; omega, wrap64]; omega
theorem w64' (b : Int) (h2 : 0 ≤ b) (h3 : b ≤ 8) : wrap64 (wrap64 b) = b := by
  rw [show wrap64 b = b from by rw [wrap64]; omega, wrap64]; omega
theorem len_way (s P X Q : Nat) (hP : P = 2 ^ s) (hs : s ≤ 56) (h0 : 1 ≤ Q) (h1 : Q < 256) (hq : Q = X / P) : wrap64 ((s : Int) + wrap64 (bitLen Q : Int)) = bitLen X := by
  subst hP hq
  rw [bitLen_shift X s (Nat.pos_iff_ne_zero.1 h0)]
  have l := bitLen_le8 _ h1
  generalize bitLen (X / 2 ^ s) = n at *
  rw [w64 _ _ (Int.natCast_nonneg _) (by omega) (Int.natCast_nonneg _) (by omega), Int.natCast_add]
theorem len_low (Q : Nat) (h1 : Q < 256) : wrap64 (wrap64 (bitLen Q : Int)) = bitLen Q := by
  have l := bitLen_le8 _ h1
  exact w64' _ (Int.natCast_nonneg _) (by omega)
set_option maxHeartbeats 4000000 in
set_option maxRecDepth 100000 in
theorem len64_any (x : Int) (w : World) (h0 : 0 ≤ x) (h1 : x < 18446744073709551616) :
    Calls Try.prog 96 #[.int .u64 x] w fun e w' => e = .returned (.int .i64 (bitLen x.toNat)) ∧ w' = w := by
  go_enter Try.func96, Try.ntmps96
  go_wp2
  all_goals go_ret
  all_goals (refine ⟨ret_i64 ?_, rfl⟩; rw [len8tab_get])
  · exact len_way 56 72057594037927936 x.toNat _ (by decide) (by omega) (by omega) (by omega) (by omega)
  · exact len_way 48 281474976710656 x.toNat _ (by decide) (by omega) (by omega) (by omega) (by omega)
  · exact len_way 40 1099511627776 x.toNat _ (by decide) (by omega) (by omega) (by omega) (by omega)
  · exact len_way 32 4294967296 x.toNat _ (by decide) (by omega) (by omega) (by omega) (by omega)
  · exact len_way 24 16777216 x.toNat _ (by decide) (by omega) (by omega) (by omega) (by omega)
  · exact len_way 16 65536 x.toNat _ (by decide) (by omega) (by omega) (by omega) (by omega)
  · exact len_way 8 256 x.toNat _ (by decide) (by omega) (by omega) (by omega) (by omega)
  · exact len_low _ (by omega)
theorem bl_le (x : Int) (h0 : 0 ≤ x) (h1 : x < 18446744073709551616) : bitLen x.toNat ≤ 64 := by
  unfold bitLen
  split
  · omega
  · rename_i h
    have := (Nat.log2_lt h).2 (show x.toNat < 2 ^ 64 from by omega)
    omega
set_option maxHeartbeats 400000 in
theorem lz64_any (x : Int) (w : World) (h0 : 0 ≤ x) (h1 : x < 18446744073709551616) :
    Calls Try.prog 95 #[.int .u64 x] w fun e w' => e = .returned (.int .i64 (64 - (bitLen x.toNat : Int))) ∧ w' = w := by
  have l := bl_le x h0 h1
  go_enter Try.func95, Try.ntmps95
  go_wp2_with (go_at_call 96; refine (len64_any x _ h0 h1).mono ?_; rintro e w' ⟨rfl, rfl⟩)
  go_ret
  exact ⟨rfl, rfl⟩
end Go.Proofs.Ytdmaaigchfgmdaa
