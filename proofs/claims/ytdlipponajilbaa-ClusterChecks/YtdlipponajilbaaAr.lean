/- What math/bits.Mul64, Len64 and LeadingZeros64 return, for every input (the products high and low words; the number of bits). -/
import Derived.Test.YtdlipponajilbaaRows
import Derived.WalkKit
import Derived.WalkSpells
import Derived.WalkLawsBesides
import Derived.Laws.MathBits
import Derived.Laws.Bits64b
import Derived.Deep.CutBlock
import Derived.Deep.DeepCutAuto
import Derived.Deep.QuietTactic
import Derived.BigQuiet
import Derived.ProofKit
import Derived.Handy
import Derived.WalkMore
import Derived.Below
import Derived.Laws.AppendOwnNone
import Derived.Deep.RegionHeld3
import Derived.Laws.Externs
namespace Go.Proofs.Ytdlipponajilbaa
open Go.RowKit
theorem ret2_u64 {a b c d : Int} (h : a = c) (h' : b = d) : Ending.returned (.tuple #[.int .u64 a, .int .u64 b]) = .returned (.tuple #[.int .u64 c, .int .u64 d]) := by rw [h, h']
theorem ret_i64 {a b : Int} (h : a = b) : Ending.returned (.int .i64 a) = .returned (.int .i64 b) := by rw [h]
set_option maxHeartbeats 400000 in
theorem mul64_any (x y : Int) (w : World) (hx0 : 0 ≤ x) (hx : x < 18446744073709551616) (hy0 : 0 ≤ y) (hy : y < 18446744073709551616) :
    Calls Try.prog 65 #[.int .u64 x, .int .u64 y] w fun e w' => e = .returned (.tuple #[.int .u64 (x * y / 18446744073709551616), .int .u64 (x * y % 18446744073709551616)]) ∧ w' = w := by
  go_enter Try.func65, Try.ntmps65
  go_wp2
  go_ret2
  refine ⟨ret2_u64 ?_ ?_, rfl⟩
  · rw [and_low32 x hx0 hx, and_low32 y hy0 hy, and_low32 _ (by rw [IntKind.wrap_u64]; omega) (by rw [IntKind.wrap_u64]; omega)]
    simp only [IntKind.wrap_u64]
    exact mul64_arith x y hx0 hx hy0 hy
  · rw [IntKind.wrap_u64]
theorem w64 (a b : Int) (h0 : 0 ≤ a) (h1 : a ≤ 56) (h2 : 0 ≤ b) (h3 : b ≤ 8) : wrap64 (a + wrap64 b) = a + b := by
  rw [show wrap64 b = b from by rw [wrap64]; omega, wrap64]; omega
theorem w64' (b : Int) (h2 : 0 ≤ b) (h3 : b ≤ 8) : wrap64 (wrap64 b) = b := by
  rw [show wrap64 b = b from by rw [wrap64]; omega, wrap64]; omega
theorem len_way (s P X Q : Nat) (hP : P = 2 ^ s) (hs : s ≤ 56) (h0 : 1 ≤ Q) (h1 : Q < 256) (hq : Q = X / P) : wrap64 ((s : Int) + wrap64 (bitLen Q : Int)) = bitLen X := by
  subst hP hq
  rw [bitLen_shift X s (Nat.pos_iff_ne_zero.1 h0)]
  have l := bitLen_le8 _ h1
  generalize bitLen (X / 2 ^ s) = n at *
  rw [w64 _ _ (Int.natCast_nonneg _) (by omega) (Int.natCast_nonneg _) (by omega), Int.natCast_add]
theorem len_low (Q : Nat) (h1 : Q < 256) : wrap64 (wrap64 (bitLen Q : Int)) = bitLen Q := by
  have l := bitLen_le8 _ h1
  exact w64' _ (Int.natCast_nonneg _) (by omega)
set_option maxHeartbeats 4000000 in
set_option maxRecDepth 100000 in
theorem len64_any (x : Int) (w : World) (h0 : 0 ≤ x) (h1 : x < 18446744073709551616) :
    Calls Try.prog 87 #[.int .u64 x] w fun e w' => e = .returned (.int .i64 (bitLen x.toNat)) ∧ w' = w := by
  go_enter Try.func87, Try.ntmps87
  go_wp2
  all_goals go_ret
  all_goals (refine ⟨ret_i64 ?_, rfl⟩; rw [len8tab_get])
  · exact len_way 56 72057594037927936 x.toNat _ (by decide) (by omega) (by omega) (by omega) (by omega)
  · exact len_way 48 281474976710656 x.toNat _ (by decide) (by omega) (by omega) (by omega) (by omega)
  · exact len_way 40 1099511627776 x.toNat _ (by decide) (by omega) (by omega) (by omega) (by omega)
  · exact len_way 32 4294967296 x.toNat _ (by decide) (by omega) (by omega) (by omega) (by omega)
  · exact len_way 24 16777216 x.toNat _ (by decide) (by omega) (by omega) (by omega) (by omega)
  · exact len_way 16 65536 x.toNat _ (by decide) (by omega) (by omega) (by omega) (by omega)
  · exact len_way 8 256 x.toNat _ (by decide) (by omega) (by omega) (by omega) (by omega)
  · exact len_low _ (by omega)
theorem bl_le (x : Int) (h0 : 0 ≤ x) (h1 : x < 18446744073709551616) : bitLen x.toNat ≤ 64 := by
  unfold bitLen
  split
  · omega
  · rename_i h
    have := (Nat.log2_lt h).2 (show x.toNat < 2 ^ 64 from by omega)
    omega
set_option maxHeartbeats 400000 in
theorem lz64_any (x : Int) (w : World) (h0 : 0 ≤ x) (h1 : x < 18446744073709551616) :
    Calls Try.prog 82 #[.int .u64 x] w fun e w' => e = .returned (.int .i64 (64 - (bitLen x.toNat : Int))) ∧ w' = w := by
  have l := bl_le x h0 h1
  go_enter Try.func82, Try.ntmps82
  go_wp2_with (go_at_call 87; refine (len64_any x _ h0 h1).mono ?_; rintro e w' ⟨rfl, rfl⟩)
  go_ret
  exact ⟨rfl, rfl⟩
end Go.Proofs.Ytdlipponajilbaa
/- Plain arithmetic of a quotient of 128 by 64 bits found in two digits of 32 bits, and the leading noughts of a divisor. -/
namespace FxDiv

/-- one digit: what holds while the guess is made smaller -/
structure Dig (Y y1 y0 u d q r : Nat) : Prop where
  split : Y = y1 * 4294967296 + y0
  y0lt : y0 < 4294967296
  y1ge : 2147483648 ≤ y1
  y1lt : y1 < 4294967296
  ult : u < Y
  dlt : d < 4294967296
  eq : q * y1 + r = u
  ge : (u * 4294967296 + d) / Y ≤ q
  le : q ≤ 4294967297

theorem Dig.ypos {Y y1 y0 u d q r} (h : Dig Y y1 y0 u d q r) : 0 < Y := by have := h.ult; omega

theorem Dig.start {Y y1 y0 u d : Nat} (hs : Y = y1 * 4294967296 + y0) (h0 : y0 < 4294967296) (h1 : 2147483648 ≤ y1) (h1' : y1 < 4294967296) (hu : u < Y) (hd : d < 4294967296) :
    Dig Y y1 y0 u d (u / y1) (u % y1) := by
  have hY : 0 < Y := by omega
  refine ⟨hs, h0, h1, h1', hu, hd, by rw [Nat.mul_comm]; exact Nat.div_add_mod u y1, ?_, ?_⟩
  · rw [Nat.le_div_iff_mul_le (by omega)]
    have h2 : (u * 4294967296 + d) / Y * Y ≤ u * 4294967296 + d := Nat.div_mul_le_self _ _
    generalize (u * 4294967296 + d) / Y = q at *
    have h3 : q * Y = q * y1 * 4294967296 + q * y0 := by rw [hs, Nat.mul_add, Nat.mul_assoc]
    have h4 : 0 ≤ q * y0 := Nat.zero_le _
    generalize q * y1 = a at *
    generalize q * y0 = b at *
    omega
  · have : u / y1 < 4294967298 := by
      rw [Nat.div_lt_iff_lt_mul (by omega)]
      omega
    omega

/-- the product that the guess makes, against what is divided -/
theorem Dig.prod {Y y1 y0 u d q r} (h : Dig Y y1 y0 u d q r) : q * Y + (4294967296 * r + d) = u * 4294967296 + d + q * y0 := by
  have h3 : q * Y = q * y1 * 4294967296 + q * y0 := by rw [h.split, Nat.mul_add, Nat.mul_assoc]
  have := h.eq
  generalize q * y1 = a at *
  generalize q * y0 = b at *
  omega

theorem Dig.qlt {Y y1 y0 u d q r} (h : Dig Y y1 y0 u d q r) : (u * 4294967296 + d) / Y < 4294967296 := by
  rw [Nat.div_lt_iff_lt_mul h.ypos]
  have := h.ult; have := h.dlt
  omega

/-- the guess is too great -/
theorem Dig.big {Y y1 y0 u d q r} (h : Dig Y y1 y0 u d q r) (hc : 4294967296 ≤ q ∨ 4294967296 * r + d < q * y0) : (u * 4294967296 + d) / Y < q := by
  rcases hc with hc | hc
  · have := h.qlt; omega
  · rw [Nat.div_lt_iff_lt_mul h.ypos]
    have := h.prod
    omega

theorem Dig.down {Y y1 y0 u d q r} (h : Dig Y y1 y0 u d q r) (hc : 4294967296 ≤ q ∨ 4294967296 * r + d < q * y0) : Dig Y y1 y0 u d (q - 1) (r + y1) ∧ 1 ≤ q ∧ q - 1 ≤ 4294967296 := by
  have hb := h.big hc
  have hq : 1 ≤ q := Nat.lt_of_le_of_lt (Nat.zero_le _) hb
  refine ⟨⟨h.split, h.y0lt, h.y1ge, h.y1lt, h.ult, h.dlt, ?_, by omega, by have := h.le; omega⟩, hq, by have := h.le; omega⟩
  have := h.eq
  obtain ⟨p, rfl⟩ : ∃ p, q = p + 1 := ⟨q - 1, by omega⟩
  rw [Nat.add_mul] at this
  simp only [Nat.add_sub_cancel]
  omega

/-- the guess is right, where the test says no -/
theorem Dig.fits {Y y1 y0 u d q r} (h : Dig Y y1 y0 u d q r) (hc : q * y0 ≤ 4294967296 * r + d) : q = (u * 4294967296 + d) / Y := by
  refine Nat.le_antisymm ?_ h.ge
  rw [Nat.le_div_iff_mul_le h.ypos]
  have := h.prod
  omega

/-- the guess is right, where the rest has grown over a digit -/
theorem Dig.broke {Y y1 y0 u d q r} (h : Dig Y y1 y0 u d q r) (hq : q ≤ 4294967296) (hr : 4294967296 ≤ r) : q = (u * 4294967296 + d) / Y := by
  refine h.fits ?_
  have h1 : q * y0 ≤ 4294967296 * y0 := Nat.mul_le_mul_right _ hq
  have := h.y0lt
  omega

/-- what is left, also where it is reckoned with wraps of 64 bits -/
theorem Dig.rest {Y y1 y0 u d q r} (h : Dig Y y1 y0 u d q r) (he : q = (u * 4294967296 + d) / Y) : u * 4294967296 + d = q * Y + (u * 4294967296 + d) % Y ∧ (u * 4294967296 + d) % Y < Y := by
  subst he
  exact ⟨(Nat.div_add_mod' _ _).symm, Nat.mod_lt _ h.ypos⟩

theorem two_aux0 (U d1 d0 a r1 b r0 K : Nat) (h1 : U + d1 = a + r1) (h0 : r1 * K + d0 = b + r0) : U * K + (d1 * K + d0) = a * K + b + r0 := by
  have : (U + d1) * K = (a + r1) * K := by rw [h1]
  rw [Nat.add_mul, Nat.add_mul] at this
  omega
theorem two_aux (u d1 d0 a r1 b r0 : Nat) (h1 : u * 4294967296 + d1 = a + r1) (h0 : r1 * 4294967296 + d0 = b + r0) : u * 18446744073709551616 + (d1 * 4294967296 + d0) = a * 4294967296 + b + r0 := by
  have e : u * 18446744073709551616 = u * 4294967296 * 4294967296 := by rw [Nat.mul_assoc]
  rw [e]
  exact two_aux0 _ _ _ _ _ _ _ _ h1 h0

/-- two digits make the quotient -/
theorem two (Y u d1 d0 q1 r1 q0 r0 : Nat) (h1 : u * 4294967296 + d1 = q1 * Y + r1) (h0 : r1 * 4294967296 + d0 = q0 * Y + r0) (hr : r0 < Y) :
    (u * 18446744073709551616 + (d1 * 4294967296 + d0)) / Y = q1 * 4294967296 + q0 ∧ (u * 18446744073709551616 + (d1 * 4294967296 + d0)) % Y = r0 := by
  have g2 : (q1 * 4294967296 + q0) * Y = q1 * Y * 4294967296 + q0 * Y := by rw [Nat.add_mul, Nat.mul_right_comm]
  have e : u * 18446744073709551616 + (d1 * 4294967296 + d0) = (q1 * 4294967296 + q0) * Y + r0 := by
    rw [g2]
    exact two_aux _ _ _ _ _ _ _ h1 h0
  have hY : 0 < Y := by omega
  rw [e, Nat.add_comm, Nat.add_mul_div_right _ _ hY, Nat.add_mul_mod_self_right, Nat.div_eq_of_lt hr, Nat.mod_eq_of_lt hr]
  omega

/-- what is shifted up ahead of it changes the quotient not, and the rest is shifted -/
theorem shifted (N y s : Nat) : (N * 2 ^ s) / (y * 2 ^ s) = N / y ∧ (N * 2 ^ s) % (y * 2 ^ s) / 2 ^ s = N % y := by
  have h2 : 0 < 2 ^ s := Nat.two_pow_pos s
  refine ⟨Nat.mul_div_mul_right _ _ h2, ?_⟩
  rw [Nat.mul_mod_mul_right, Nat.mul_div_cancel _ h2]

/-- the number, shifted up, in two words -/
theorem words (hi lo s : Nat) (hs : s ≤ 64) : (hi * 18446744073709551616 + lo) * 2 ^ s = (hi * 2 ^ s + lo / 2 ^ (64 - s)) * 18446744073709551616 + lo * 2 ^ s % 18446744073709551616 := by
  have e : lo * 2 ^ s / 18446744073709551616 = lo / 2 ^ (64 - s) := by
    have : 18446744073709551616 = 2 ^ (64 - s) * 2 ^ s := by rw [← Nat.pow_add, show 64 - s + s = 64 from by omega]
    rw [this, Nat.mul_div_mul_right _ _ (Nat.two_pow_pos s)]
  have := Nat.div_add_mod (lo * 2 ^ s) 18446744073709551616
  rw [e] at this
  rw [Nat.add_mul, Nat.add_mul, Nat.mul_right_comm]
  generalize hi * 2 ^ s = a at *
  generalize lo * 2 ^ s = b at *
  omega

theorem high_lt (hi lo y s : Nat) (hs : s ≤ 64) (hlo : lo < 18446744073709551616) (h : hi < y) : hi * 2 ^ s + lo / 2 ^ (64 - s) < y * 2 ^ s := by
  have h1 : lo / 2 ^ (64 - s) < 2 ^ s := by
    rw [Nat.div_lt_iff_lt_mul (Nat.two_pow_pos _), ← Nat.pow_add, show s + (64 - s) = 64 from by omega]
    exact hlo
  have h2 : (hi + 1) * 2 ^ s ≤ y * 2 ^ s := Nat.mul_le_mul_right _ h
  rw [Nat.add_mul] at h2
  omega

end FxDiv

namespace Go.Proofs.Ytdlipponajilbaa
open Go.RowKit
theorem bl_top (y : Nat) (h : 0 < y) (hy : y < 18446744073709551616) : bitLen y ≤ 64 ∧ 1 ≤ bitLen y ∧ 2 ^ 63 ≤ y * 2 ^ (64 - bitLen y) ∧ y * 2 ^ (64 - bitLen y) < 2 ^ 64 := by
  have l := bl_le (y : Int) (by omega) (by omega)
  rw [Int.toNat_natCast] at l
  obtain ⟨h1, h2⟩ := bitLen_spec y
  have h3 := h2 (by omega)
  have h4 : 1 ≤ bitLen y := by
    rcases Nat.eq_zero_or_pos (bitLen y) with h0 | h0
    · rw [h0] at h1; simp at h1; omega
    · exact h0
  refine ⟨l, h4, ?_, ?_⟩
  · have : 2 ^ (bitLen y - 1) * 2 ^ (64 - bitLen y) = 2 ^ 63 := by rw [← Nat.pow_add]; congr 1; omega
    rw [← this]; exact Nat.mul_le_mul_right _ h3
  · have : 2 ^ bitLen y * 2 ^ (64 - bitLen y) = 2 ^ 64 := by rw [← Nat.pow_add]; congr 1; omega
    rw [← this]; exact Nat.mul_lt_mul_of_pos_right h1 (Nat.two_pow_pos _)
theorem lz64_s (y : Nat) (w : World) (h : 0 < y) (hy : y < 18446744073709551616) :
    Calls Try.prog 82 #[.int .u64 y] w fun e w' => ∃ s : Nat, e = .returned (.int .i64 (s : Int)) ∧ s ≤ 63 ∧ 9223372036854775808 ≤ y * 2 ^ s ∧ y * 2 ^ s < 18446744073709551616 ∧ w' = w := by
  refine (lz64_any (y : Int) w (by omega) (by omega)).mono ?_
  rintro e w' ⟨rfl, rfl⟩
  obtain ⟨a, b, c, d⟩ := bl_top y h hy
  refine ⟨64 - bitLen y, ?_, by omega, c, d, rfl⟩
  rw [Int.toNat_natCast]
  exact ret_i64 (by omega)
theorem or_add (a b s : Nat) (hb : b < 2 ^ s) (hab : a * 2 ^ s + b < 18446744073709551616) : bits .or .u64 ((a * 2 ^ s : Nat) : Int) (b : Int) = ((a * 2 ^ s + b : Nat) : Int) := by
  rw [bits_or_u64_nat _ _ (by omega) (by omega)]
  have := Nat.shiftLeft_add_eq_or_of_lt hb a
  rw [Nat.shiftLeft_eq] at this
  rw [this]
end Go.Proofs.Ytdlipponajilbaa
/- Math/bits.Div64 returns quotient and rest of the number in two words, where the high word is above 0 and below the divisor. -/
namespace Go.Proofs.Ytdlipponajilbaa
open Go.RowKit FxDiv
theorem wrap_nat (a : Nat) : IntKind.u64.wrap (a : Int) = ((a % 18446744073709551616 : Nat) : Int) := by rw [IntKind.wrap_u64]; omega
theorem wrap_shl (a s : Nat) : IntKind.u64.wrap ((a : Int) * 2 ^ s) = ((a * 2 ^ s % 18446744073709551616 : Nat) : Int) := by
  rw [show (a : Int) * 2 ^ s = ((a * 2 ^ s : Nat) : Int) from by rw [Int.natCast_mul, Int.natCast_pow]; rfl, wrap_nat]
theorem start_q (u y1 : Nat) (hu : u < 18446744073709551616) : IntKind.u64.wrap ((u : Int) / (y1 : Int)) = ((u / y1 : Nat) : Int) := by
  rw [← Int.natCast_ediv, wrap_nat, Nat.mod_eq_of_lt (Nat.lt_of_le_of_lt (Nat.div_le_self u y1) hu)]
theorem start_r (u y1 : Nat) (hu : u < 18446744073709551616) : IntKind.u64.wrap ((u : Int) - IntKind.u64.wrap (IntKind.u64.wrap ((u : Int) / (y1 : Int)) * (y1 : Int))) = ((u % y1 : Nat) : Int) := by
  rw [start_q u y1 hu, ← Int.natCast_mul, wrap_nat]
  have h1 : u / y1 * y1 ≤ u := Nat.div_mul_le_self u y1
  have h2 : u / y1 * y1 + u % y1 = u := Nat.div_add_mod' u y1
  rw [Nat.mod_eq_of_lt (by omega), IntKind.wrap_u64]
  omega
/-- a rest, reckoned with wraps -/
theorem rest_u64 (u d q Y R : Nat) (hR : R < 18446744073709551616) (h : u * 4294967296 + d = q * Y + R) :
    IntKind.u64.wrap (IntKind.u64.wrap (IntKind.u64.wrap ((u : Int) * 4294967296) + (d : Int)) - IntKind.u64.wrap ((q : Int) * (Y : Int))) = (R : Int) := by
  rw [← Int.natCast_mul]
  generalize q * Y = p at *
  simp only [IntKind.wrap_u64]
  omega
theorem div_fin (hi lo y s Y u L d1 d0 q1 R q0 R0 : Nat) (hs : s ≤ 63) (hY : Y = y * 2 ^ s) (hu : u = hi * 2 ^ s + lo / 2 ^ (64 - s)) (hL : L = lo * 2 ^ s % 18446744073709551616)
    (hLs : L = d1 * 4294967296 + d0) (h1 : u * 4294967296 + d1 = q1 * Y + R) (h0 : R * 4294967296 + d0 = q0 * Y + R0) (hR : R0 < Y) :
    (q1 : Int) * 4294967296 + (q0 : Int) = (((hi * 18446744073709551616 + lo) / y : Nat) : Int) ∧ (R0 : Int) / 2 ^ s = (((hi * 18446744073709551616 + lo) % y : Nat) : Int) := by
  obtain ⟨t1, t2⟩ := two Y u d1 d0 q1 R q0 R0 h1 h0 hR
  rw [← hLs, hL, hu, ← words hi lo s (by omega), hY] at t1 t2
  obtain ⟨s1, s2⟩ := shifted (hi * 18446744073709551616 + lo) y s
  rw [t1] at s1
  rw [t2] at s2
  rw [← s1, ← s2, Int.natCast_add, Int.natCast_mul, Int.natCast_ediv, Int.natCast_pow]
  exact ⟨rfl, rfl⟩
set_option maxHeartbeats 400000 in
set_option maxRecDepth 100000 in
theorem div64_pos (hi lo y : Nat) (w : World) (h0 : 0 < hi) (h : hi < y) (hl : lo < 18446744073709551616) (hy : y < 18446744073709551616) :
    Calls Try.prog 67 #[.int .u64 hi, .int .u64 lo, .int .u64 y] w fun e w' => e = .returned (.tuple #[.int .u64 (((hi * 18446744073709551616 + lo) / y : Nat) : Int), .int .u64 (((hi * 18446744073709551616 + lo) % y : Nat) : Int)]) ∧ w' = w := by
  have c1 : ((y : Int) == 0) = false := beq_eq_false_iff_ne.2 (by omega)
  have c2 : ((hi : Int) == 0) = false := beq_eq_false_iff_ne.2 (by omega)
  go_enter Try.func67, Try.ntmps67
  go_wp2_with fail
  refine (lz64_s y _ (by omega) hy).mono ?_
  rintro e w1 ⟨s, rfl, hs, hs1, hs2, rfl⟩
  obtain ⟨Y, hY⟩ : ∃ Y, Y = y * 2 ^ s := ⟨_, rfl⟩
  obtain ⟨u, hu⟩ : ∃ u, u = hi * 2 ^ s + lo / 2 ^ (64 - s) := ⟨_, rfl⟩
  obtain ⟨L, hL⟩ : ∃ L, L = lo * 2 ^ s % 18446744073709551616 := ⟨_, rfl⟩
  have ult : u < Y := by rw [hu, hY]; exact high_lt hi lo y s (by omega) hl h
  have Llt : L < 18446744073709551616 := by rw [hL]; exact Nat.mod_lt _ (by omega)
  rw [← hY] at hs1 hs2
  have eY : IntKind.u64.wrap ((y : Int) * 2 ^ s) = (Y : Int) := by rw [wrap_shl, ← hY, Nat.mod_eq_of_lt hs2]
  have eL : IntKind.u64.wrap ((lo : Int) * 2 ^ s) = (L : Int) := by rw [wrap_shl, ← hL]
  have hH : hi * 2 ^ s < 18446744073709551616 := by have := Nat.le_add_right (hi * 2 ^ s) (lo / 2 ^ (64 - s)); rw [← hu] at this; omega
  have eU : bits .or .u64 (IntKind.u64.wrap ((hi : Int) * 2 ^ s)) ((lo : Int) / 2 ^ (64 - s)) = (u : Int) := by
    rw [wrap_shl, Nat.mod_eq_of_lt hH, show (lo : Int) / 2 ^ (64 - s) = ((lo / 2 ^ (64 - s) : Nat) : Int) from by rw [Int.natCast_ediv, Int.natCast_pow]; rfl, hu]
    refine or_add _ _ _ ?_ (by rw [← hu]; omega)
    rw [Nat.div_lt_iff_lt_mul (Nat.two_pow_pos _), ← Nat.pow_add, show s + (64 - s) = 64 from by omega]
    exact hl
  obtain ⟨y1, hy1⟩ : ∃ y1, y1 = Y / 4294967296 := ⟨_, rfl⟩
  obtain ⟨y0, hy0⟩ : ∃ y0, y0 = Y % 4294967296 := ⟨_, rfl⟩
  obtain ⟨d1, hd1⟩ : ∃ d1, d1 = L / 4294967296 := ⟨_, rfl⟩
  obtain ⟨d0, hd0⟩ : ∃ d0, d0 = L % 4294967296 := ⟨_, rfl⟩
  have ey1 : (Y : Int) / 4294967296 = (y1 : Int) := by omega
  have ey0 : bits .and .u64 (Y : Int) 4294967295 = (y0 : Int) := by rw [and_low32 _ (by omega) (by omega)]; omega
  have ed1 : (L : Int) / 4294967296 = (d1 : Int) := by omega
  have ed0 : bits .and .u64 (L : Int) 4294967295 = (d0 : Int) := by rw [and_low32 _ (by omega) (by omega)]; omega
  have by1 : 2147483648 ≤ y1 ∧ y1 < 4294967296 := by omega
  have by0 : y0 < 4294967296 := by omega
  have bd1 : d1 < 4294967296 := by omega
  have bd0 : d0 < 4294967296 := by omega
  have cy1 : ((y1 : Int) == 0) = false := beq_eq_false_iff_ne.2 (by omega)
  have hYs : Hid (Y = y1 * 4294967296 + y0) := by show _ = _; omega
  have hLs : Hid (L = d1 * 4294967296 + d0) := by show _ = _; omega
  have hY' : Hid (Y = y * 2 ^ s) := hY
  have hu' : Hid (u = hi * 2 ^ s + lo / 2 ^ (64 - s)) := hu
  have hL' : Hid (L = lo * 2 ^ s % 18446744073709551616) := hL
  clear hY hu hL hy1 hy0 hd1 hd0 hH
  go_upto_block 0 with fail
  go_cut [15, 16] from 67 to 85 (fun q r wx => ∃ qn rn : Nat, q = .int .u64 (qn : Int) ∧ r = .int .u64 (rn : Int) ∧ Hid (Dig Y y1 y0 u d1 qn rn ∧ qn = (u * 4294967296 + d1) / Y) ∧ w1 = wx)
  case first =>
    go_wp2_with fail
    go_loop [15, 16] (fun q r => ∃ qn rn : Nat, q = .int .u64 (qn : Int) ∧ r = .int .u64 (rn : Int) ∧ Hid (Dig Y y1 y0 u d1 qn rn) ∧ (rn : Int) < 4294967296) (fun _ r => 4294967296 - (intOf r).toNat)
    case atStart =>
      refine ⟨u / y1, u % y1, by rw [start_q u y1 (by omega)], by rw [start_r u y1 (by omega)], Dig.start hYs.out by0 by1.1 by1.2 ult bd1, ?_⟩
      have := Nat.mod_lt u (show 0 < y1 by omega)
      omega
    case round =>
      obtain ⟨qn, rn, rfl, rfl, hD, hr⟩ := hrel
      have hqle : (qn : Int) ≤ 4294967297 := by have := hD.out.le; omega
      obtain ⟨p, hp⟩ : ∃ p, p = qn * y0 := ⟨_, rfl⟩
      have ep : (qn : Int) * (y0 : Int) = (p : Int) := by rw [hp, Int.natCast_mul]
      have hp' : Hid (p = qn * y0) := hp
      have hpb : Hid (¬ (4294967296 : Int) ≤ qn → (p : Int) < 18446744073709551616) := by
        intro hq
        have : qn * y0 ≤ 4294967295 * 4294967295 := Nat.mul_le_mul (by omega) (by omega)
        omega
      clear hp
      by_cases hc1 : (4294967296 : Int) ≤ qn
      · obtain ⟨hD', hq1, hq2⟩ := hD.out.down (Or.inl (by omega))
        have hDD : Hid (Dig Y y1 y0 u d1 (qn - 1) (rn + y1)) := hD'
        have hq2' : Hid (qn - 1 ≤ 4294967296) := hq2
        have hq1 : (1 : Int) ≤ qn := by omega
        clear hq2 hD' hD
        by_cases hc3 : (4294967296 : Int) ≤ (rn : Int) + (y1 : Int)
        · go_wp2_with fail
          go_meet
          case rel => exact ⟨qn - 1, rn + y1, by go_num, by go_num, ⟨hDD.out, hDD.out.broke hq2'.out (by omega)⟩, rfl⟩
        · go_wp2_with fail
          go_round
          case rel => exact ⟨qn - 1, rn + y1, by go_num, by go_num, hDD, by omega⟩
          case measure => simp [intOf]; omega
      · have hpl : (p : Int) < 18446744073709551616 := hpb.out hc1
        by_cases hc2 : (4294967296 : Int) * rn + d1 < p
        · obtain ⟨hD', hq1, hq2⟩ := hD.out.down (Or.inr (by rw [← hp'.out]; omega))
          have hDD : Hid (Dig Y y1 y0 u d1 (qn - 1) (rn + y1)) := hD'
          have hq2' : Hid (qn - 1 ≤ 4294967296) := hq2
          have hq1 : (1 : Int) ≤ qn := by omega
          clear hq2 hD' hD
          by_cases hc3 : (4294967296 : Int) ≤ (rn : Int) + (y1 : Int)
          · go_wp2_with fail
            go_meet
            case rel => exact ⟨qn - 1, rn + y1, by go_num, by go_num, ⟨hDD.out, hDD.out.broke hq2'.out (by omega)⟩, rfl⟩
          · go_wp2_with fail
            go_round
            case rel => exact ⟨qn - 1, rn + y1, by go_num, by go_num, hDD, by omega⟩
            case measure => simp [intOf]; omega
        · go_wp2_with fail
          go_meet
          case rel => exact ⟨qn, rn, rfl, rfl, ⟨hD.out, hD.out.fits (by rw [← hp'.out]; omega)⟩, rfl⟩
  case rest =>
    obtain ⟨q1, rn, rfl, rfl, hq, rfl⟩ := hcut
    obtain ⟨R, hR⟩ : ∃ R, R = (u * 4294967296 + d1) % Y := ⟨_, rfl⟩
    obtain ⟨hR1, hR2⟩ := hq.out.1.rest hq.out.2
    rw [← hR] at hR1 hR2
    have Rlt : R < Y := hR2
    have eR : IntKind.u64.wrap (IntKind.u64.wrap (IntKind.u64.wrap ((u : Int) * 4294967296) + (d1 : Int)) - IntKind.u64.wrap ((q1 : Int) * (Y : Int))) = (R : Int) := rest_u64 u d1 q1 Y R (by omega) hR1
    have hR1' : Hid (u * 4294967296 + d1 = q1 * Y + R) := hR1
    have q1lt : (q1 : Int) < 4294967296 := by have := hq.out.1.qlt; rw [← hq.out.2] at this; omega
    clear hR hR1 hR2 hq
    go_upto_block 2 with fail
    go_cut [16, 18] from 102 to 120 (fun r q wx => ∃ qn rn : Nat, q = .int .u64 (qn : Int) ∧ r = .int .u64 (rn : Int) ∧ Hid (Dig Y y1 y0 R d0 qn rn ∧ qn = (R * 4294967296 + d0) / Y) ∧ w1 = wx)
    case first =>
      go_wp2_with fail
      go_loop [16, 18] (fun r q => ∃ qn rn : Nat, q = .int .u64 (qn : Int) ∧ r = .int .u64 (rn : Int) ∧ Hid (Dig Y y1 y0 R d0 qn rn) ∧ (rn : Int) < 4294967296) (fun r _ => 4294967296 - (intOf r).toNat)
      case atStart =>
        refine ⟨R / y1, R % y1, by rw [start_q R y1 (by omega)], by rw [start_r R y1 (by omega)], Dig.start hYs.out by0 by1.1 by1.2 Rlt bd0, ?_⟩
        have := Nat.mod_lt R (show 0 < y1 by omega)
        omega
      case round =>
        obtain ⟨qn, rn, rfl, rfl, hD, hr⟩ := hrel
        have hqle : (qn : Int) ≤ 4294967297 := by have := hD.out.le; omega
        obtain ⟨p, hp⟩ : ∃ p, p = qn * y0 := ⟨_, rfl⟩
        have ep : (qn : Int) * (y0 : Int) = (p : Int) := by rw [hp, Int.natCast_mul]
        have hp' : Hid (p = qn * y0) := hp
        have hpb : Hid (¬ (4294967296 : Int) ≤ qn → (p : Int) < 18446744073709551616) := by
          intro hq
          have : qn * y0 ≤ 4294967295 * 4294967295 := Nat.mul_le_mul (by omega) (by omega)
          omega
        clear hp
        by_cases hc1 : (4294967296 : Int) ≤ qn
        · obtain ⟨hD', hq1, hq2⟩ := hD.out.down (Or.inl (by omega))
          have hDD : Hid (Dig Y y1 y0 R d0 (qn - 1) (rn + y1)) := hD'
          have hq2' : Hid (qn - 1 ≤ 4294967296) := hq2
          have hq1 : (1 : Int) ≤ qn := by omega
          clear hq2 hD' hD
          by_cases hc3 : (4294967296 : Int) ≤ (rn : Int) + (y1 : Int)
          · go_wp2_with fail
            go_meet
            case rel => exact ⟨qn - 1, rn + y1, by go_num, by go_num, ⟨hDD.out, hDD.out.broke hq2'.out (by omega)⟩, rfl⟩
          · go_wp2_with fail
            go_round
            case rel => exact ⟨qn - 1, rn + y1, by go_num, by go_num, hDD, by omega⟩
            case measure => simp [intOf]; omega
        · have hpl : (p : Int) < 18446744073709551616 := hpb.out hc1
          by_cases hc2 : (4294967296 : Int) * rn + d0 < p
          · obtain ⟨hD', hq1, hq2⟩ := hD.out.down (Or.inr (by rw [← hp'.out]; omega))
            have hDD : Hid (Dig Y y1 y0 R d0 (qn - 1) (rn + y1)) := hD'
            have hq2' : Hid (qn - 1 ≤ 4294967296) := hq2
            have hq1 : (1 : Int) ≤ qn := by omega
            clear hq2 hD' hD
            by_cases hc3 : (4294967296 : Int) ≤ (rn : Int) + (y1 : Int)
            · go_wp2_with fail
              go_meet
              case rel => exact ⟨qn - 1, rn + y1, by go_num, by go_num, ⟨hDD.out, hDD.out.broke hq2'.out (by omega)⟩, rfl⟩
            · go_wp2_with fail
              go_round
              case rel => exact ⟨qn - 1, rn + y1, by go_num, by go_num, hDD, by omega⟩
              case measure => simp [intOf]; omega
          · go_wp2_with fail
            go_meet
            case rel => exact ⟨qn, rn, rfl, rfl, ⟨hD.out, hD.out.fits (by rw [← hp'.out]; omega)⟩, rfl⟩
    case rest =>
      obtain ⟨q0, rn, rfl, rfl, hq, rfl⟩ := hcut
      obtain ⟨R0, hR⟩ : ∃ R0, R0 = (R * 4294967296 + d0) % Y := ⟨_, rfl⟩
      obtain ⟨hR1, hR2⟩ := hq.out.1.rest hq.out.2
      rw [← hR] at hR1 hR2
      have eR0 : IntKind.u64.wrap (IntKind.u64.wrap (IntKind.u64.wrap ((R : Int) * 4294967296) + (d0 : Int)) - IntKind.u64.wrap ((q0 : Int) * (Y : Int))) = (R0 : Int) := rest_u64 R d0 q0 Y R0 (by omega) hR1
      have hR0' : Hid (R * 4294967296 + d0 = q0 * Y + R0) := hR1
      have hR0l : Hid (R0 < Y) := hR2
      have q0lt : (q0 : Int) < 4294967296 := by have := hq.out.1.qlt; rw [← hq.out.2] at this; omega
      clear hR hR1 hR2 hq
      go_wp2
      go_ret2
      obtain ⟨f1, f2⟩ := div_fin hi lo y s Y u L d1 d0 q1 R q0 R0 hs hY'.out hu'.out hL'.out hLs.out hR1'.out hR0'.out hR0l.out
      exact ⟨ret2_u64 f1 f2, rfl⟩
end Go.Proofs.Ytdlipponajilbaa
/- Math/bits.Div64 returns quotient and rest of the number in two words, where the high word is below the divisor. -/
namespace Go.Proofs.Ytdlipponajilbaa
open Go.RowKit FxDiv
set_option maxHeartbeats 400000 in
theorem div64_zero (lo y : Nat) (w : World) (h : 0 < y) (hl : lo < 18446744073709551616) (hy : y < 18446744073709551616) :
    Calls Try.prog 67 #[.int .u64 0, .int .u64 lo, .int .u64 y] w fun e w' => e = .returned (.tuple #[.int .u64 ((lo / y : Nat) : Int), .int .u64 ((lo % y : Nat) : Int)]) ∧ ∃ n, w' = w.drewN n := by
  have c1 : ((y : Int) == 0) = false := beq_eq_false_iff_ne.2 (by omega)
  go_enter Try.func67, Try.ntmps67
  go_wp2
  go_quiet (fail)
  go_wp2
  go_ret2
  refine ⟨ret2_u64 ?_ ?_, _, rfl⟩
  · exact start_q lo y hl
  · exact (Int.natCast_emod lo y).symm
theorem div64_any (hi lo y : Nat) (w : World) (h : hi < y) (hl : lo < 18446744073709551616) (hy : y < 18446744073709551616) :
    Calls Try.prog 67 #[.int .u64 hi, .int .u64 lo, .int .u64 y] w fun e w' => e = .returned (.tuple #[.int .u64 (((hi * 18446744073709551616 + lo) / y : Nat) : Int), .int .u64 (((hi * 18446744073709551616 + lo) % y : Nat) : Int)]) ∧ ∃ n, w' = w.drewN n := by
  rcases Nat.eq_zero_or_pos hi with h0 | h0
  · rw [h0, show ((0 : Nat) : Int) = 0 from rfl, Nat.zero_mul, Nat.zero_add]
    exact div64_zero lo y w (by omega) hl hy
  · refine (div64_pos hi lo y w h0 h hl hy).mono ?_
    rintro e w' ⟨rfl, rfl⟩
    exact ⟨rfl, 0, rfl⟩
end Go.Proofs.Ytdlipponajilbaa
/- Plain numbers: a number cut at a limit either way, and quotients divided down, by size and sign (no run of the model in this text). -/
namespace Fx
/-- a number, cut at a limit either way -/
def cl (m x : Int) : Int := max (-m) (min x m)
theorem cl_def (m x : Int) : cl m x = max (-m) (min x m) := rfl
theorem cl_in {m x : Int} (h0 : -m ≤ x) (h1 : x ≤ m) : cl m x = x := by unfold cl; omega
theorem cl_up {m x : Int} (h0 : 0 ≤ m) (h1 : m ≤ x) : cl m x = m := by have := h0; unfold cl; omega
theorem cl_dn {m x : Int} (_h0 : 0 ≤ m) (h1 : x ≤ -m) : cl m x = -m := by unfold cl; omega
theorem cl_bd {m : Int} (h0 : 0 ≤ m) (x : Int) : -m ≤ cl m x ∧ cl m x ≤ m := by unfold cl; omega
theorem cl_mono {m x y : Int} (h : x ≤ y) : cl m x ≤ cl m y := by unfold cl; omega

/-- the quotient of a product, by sizes -/
theorem quo_pos (P D : Nat) : ((P : Int)) / (D : Int) = ((P / D : Nat) : Int) := (Int.natCast_ediv P D).symm
theorem quo_neg (P D : Nat) (hD : 0 < D) : (-(P : Int)) / (D : Int) = -(((P / D : Nat) : Int) + if 0 < P % D then 1 else 0) := by
  have h := Nat.div_add_mod P D
  have hm := Nat.mod_lt P hD
  generalize P / D = q at *
  generalize P % D = r at *
  have hP : (P : Int) = (D : Int) * q + r := by rw [← Int.natCast_mul, ← Int.natCast_add, h]
  split
  · rename_i hr
    rw [Int.ediv_eq_iff_of_pos (by omega)]
    rw [hP]
    refine ⟨?_, ?_⟩
    · have : -((q : Int) + 1) * D = -((D : Int) * q) - D := by grind
      omega
    · have : -((q : Int) + 1) * D = -((D : Int) * q) - D := by grind
      omega
  · rename_i hr
    have hr0 : r = 0 := by omega
    rw [hr0] at hP
    rw [hP, Int.ediv_eq_iff_of_pos (by omega)]
    refine ⟨?_, ?_⟩
    · have : -((q : Int) + 0) * D = -((D : Int) * q) := by grind
      omega
    · have : -((q : Int) + 0) * D = -((D : Int) * q) := by grind
      omega
theorem prod_same {a b : Int} (h : (a < 0) ↔ (b < 0)) : a * b = ((a.natAbs * b.natAbs : Nat) : Int) := by
  rw [Int.natCast_mul]
  by_cases ha : a < 0
  · have hb := h.1 ha
    rw [show ((a.natAbs : Nat) : Int) = -a from by omega, show ((b.natAbs : Nat) : Int) = -b from by omega]
    grind
  · have hb : ¬ b < 0 := fun x => ha (h.2 x)
    rw [show ((a.natAbs : Nat) : Int) = a from by omega, show ((b.natAbs : Nat) : Int) = b from by omega]
theorem prod_other {a b : Int} (h : ¬ ((a < 0) ↔ (b < 0))) : a * b = -((a.natAbs * b.natAbs : Nat) : Int) := by
  rw [Int.natCast_mul]
  by_cases ha : a < 0
  · have hb : ¬ b < 0 := fun x => h ⟨fun _ => x, fun _ => ha⟩
    rw [show ((a.natAbs : Nat) : Int) = -a from by omega, show ((b.natAbs : Nat) : Int) = b from by omega]
    grind
  · have hb : b < 0 := Decidable.byContradiction fun x => h ⟨fun y => absurd y ha, fun y => absurd y x⟩
    rw [show ((a.natAbs : Nat) : Int) = a from by omega, show ((b.natAbs : Nat) : Int) = -b from by omega]
    grind
/-- too great for a word -/
theorem quo_big (P D : Nat) (hD : 0 < D) (h : D ≤ P / 18446744073709551616) : 18446744073709551616 ≤ P / D := by
  rw [Nat.le_div_iff_mul_le hD, Nat.mul_comm]
  exact (Nat.le_div_iff_mul_le (by decide)).1 h
theorem words (P : Nat) : P / 18446744073709551616 * 18446744073709551616 + P % 18446744073709551616 = P := Nat.div_add_mod' P _
/-- the quotient that is cut, by sizes and signs -/
def qs (below : Bool) (P D : Nat) (m : Int) : Int := cl m ((if below then -(P : Int) else (P : Int)) / (D : Int))
theorem qs_far (below : Bool) (P D : Nat) (m : Int) (hD : 0 < D) (hm : 0 ≤ m) (h : m ≤ ((P / D : Nat) : Int)) : qs below P D m = if below then -m else m := by
  cases below
  · unfold qs
    rw [if_neg (by decide), if_neg (by decide), quo_pos]
    exact cl_up hm h
  · unfold qs
    rw [if_pos rfl, if_pos rfl, quo_neg P D hD]
    refine cl_dn hm ?_
    split <;> omega
theorem qs_up (P D : Nat) (m : Int) (h : ((P / D : Nat) : Int) < m) : qs false P D m = ((P / D : Nat) : Int) := by
  unfold qs
  rw [if_neg (by decide), quo_pos]
  generalize P / D = q at *
  exact cl_in (by omega) (by omega)
theorem qs_dn0 (P D : Nat) (m : Int) (hD : 0 < D) (h : ((P / D : Nat) : Int) < m) (hr : P % D = 0) : qs true P D m = -((P / D : Nat) : Int) := by
  unfold qs
  rw [if_pos rfl, quo_neg P D hD, if_neg (by omega), Int.add_zero]
  generalize P / D = q at *
  exact cl_in (by omega) (by omega)
theorem qs_dn1 (P D : Nat) (m : Int) (hD : 0 < D) (h : ((P / D : Nat) : Int) < m) (hr : 0 < P % D) : qs true P D m = -(((P / D : Nat) : Int) + 1) := by
  unfold qs
  rw [if_pos rfl, quo_neg P D hD, if_pos hr]
  generalize P / D = q at *
  exact cl_in (by omega) (by omega)
theorem qs_same {a b : Int} (h : (a < 0) ↔ (b < 0)) (D : Nat) (m : Int) : cl m (a * b / D) = qs false (a.natAbs * b.natAbs) D m := by
  rw [prod_same h]; rfl
theorem qs_other {a b : Int} (h : ¬ ((a < 0) ↔ (b < 0))) (D : Nat) (m : Int) : cl m (a * b / D) = qs true (a.natAbs * b.natAbs) D m := by
  rw [prod_other h]; rfl
theorem size_le {a : Int} (h0 : -9223372036854775808 ≤ a) (h1 : a ≤ 9223372036854775807) : a.natAbs ≤ 9223372036854775808 := by omega
end Fx
/- Half of a sum, made of the bits that two numbers share and of those that they do not, is the half divided down. -/
namespace Go.Proofs.Ytdlipponajilbaa
theorem and_mod2 (A B : Nat) : (A &&& B) % 2 = (A % 2) * (B % 2) := by
  have := Nat.and_mod_two_pow (a := A) (b := B) (n := 1)
  simp only [Nat.pow_one] at this
  rw [this]
  rcases Nat.mod_two_eq_zero_or_one A with h | h <;> rcases Nat.mod_two_eq_zero_or_one B with g | g <;> rw [h, g] <;> decide
theorem xor_mod2 (A B : Nat) : (A ^^^ B) % 2 = (A + B) % 2 := by
  have := Nat.xor_mod_two_pow (a := A) (b := B) (n := 1)
  simp only [Nat.pow_one] at this
  rw [this]
  rcases Nat.mod_two_eq_zero_or_one A with h | h <;> rcases Nat.mod_two_eq_zero_or_one B with g | g <;> rw [h, g] <;> simp <;> omega
theorem and_xor (n : Nat) : ∀ A B : Nat, A < 2 ^ n → B < 2 ^ n → A + B = 2 * (A &&& B) + (A ^^^ B) := by
  induction n with
  | zero => intro A B hA hB; simp at hA hB; subst hA hB; simp
  | succ n ih =>
    intro A B hA hB
    rw [Nat.pow_succ] at hA hB
    have h := ih (A / 2) (B / 2) (by omega) (by omega)
    rw [← Nat.and_div_two, ← Nat.xor_div_two] at h
    have e1 := and_mod2 A B
    have e2 := xor_mod2 A B
    generalize (A &&& B) = x at *
    generalize (A ^^^ B) = z at *
    rcases Nat.mod_two_eq_zero_or_one A with ha | ha <;> rcases Nat.mod_two_eq_zero_or_one B with hb | hb <;> rw [ha, hb] at e1 <;> omega
theorem wrap_lo (p : Nat) (h : ¬ 9223372036854775808 ≤ p) : IntKind.i64.wrap (p : Int) = p := by rw [IntKind.wrap_i64]; omega
theorem wrap_hi (p : Nat) (h : 9223372036854775808 ≤ p) (h' : p < 18446744073709551616) : IntKind.i64.wrap (p : Int) = (p : Int) - 18446744073709551616 := by rw [IntKind.wrap_i64]; omega
theorem mean_bits (a b : Int) (ha0 : -9223372036854775808 ≤ a) (ha1 : a ≤ 9223372036854775807) (hb0 : -9223372036854775808 ≤ b) (hb1 : b ≤ 9223372036854775807) :
    bits .and .i64 a b + bits .xor .i64 a b / 2 = (a + b) / 2 := by
  have eA : ((BitVec.ofInt 64 a).toNat : Int) = a % 18446744073709551616 := by rw [BitVec.toNat_ofInt]; omega
  have eB : ((BitVec.ofInt 64 b).toNat : Int) = b % 18446744073709551616 := by rw [BitVec.toNat_ofInt]; omega
  show IntKind.i64.wrap (((BitVec.ofInt 64 a) &&& (BitVec.ofInt 64 b)).toNat : Int) + IntKind.i64.wrap (((BitVec.ofInt 64 a) ^^^ (BitVec.ofInt 64 b)).toNat : Int) / 2 = _
  generalize hX : BitVec.ofInt 64 a = X at *
  generalize hY : BitVec.ofInt 64 b = Y at *
  have h := and_xor 64 X.toNat Y.toNat X.isLt Y.isLt
  have m1 := BitVec.msb_and (x := X) (y := Y)
  have m2 := BitVec.msb_xor (x := X) (y := Y)
  have m3 := (X &&& Y).isLt
  have m4 := (X ^^^ Y).isLt
  have m5 := X.isLt
  have m6 := Y.isLt
  simp only [BitVec.msb_eq_decide, Nat.reduceSub, Nat.reducePow] at m1 m2 m3 m4 m5 m6
  rw [← BitVec.toNat_and, ← BitVec.toNat_xor] at h
  generalize (X &&& Y).toNat = p at *
  generalize (X ^^^ Y).toNat = q at *
  generalize X.toNat = A at *
  generalize Y.toNat = B at *
  clear hX hY
  have f1 : 9223372036854775808 ≤ p ↔ 9223372036854775808 ≤ A ∧ 9223372036854775808 ≤ B := by
    have := congrArg (· = true) m1
    simpa using this
  have f2 : 9223372036854775808 ≤ q ↔ ¬ (9223372036854775808 ≤ A ↔ 9223372036854775808 ≤ B) := by
    have := congrArg (· = true) m2
    simpa using this
  clear m1 m2
  by_cases h1 : 9223372036854775808 ≤ A
  · have ea : a = (A : Int) - 18446744073709551616 := by omega
    by_cases h2 : 9223372036854775808 ≤ B
    · have eb : b = (B : Int) - 18446744073709551616 := by omega
      have g1 := f1.2 ⟨h1, h2⟩
      have g2 : ¬ 9223372036854775808 ≤ q := fun x => (f2.1 x) ⟨fun _ => h2, fun _ => h1⟩
      rw [wrap_hi p g1 m3, wrap_lo q g2, ea, eb]
      clear eA eB f1 f2 ea eb
      omega
    · have eb : b = (B : Int) := by omega
      have g1 : ¬ 9223372036854775808 ≤ p := fun x => h2 (f1.1 x).2
      have g2 : 9223372036854775808 ≤ q := f2.2 fun x => h2 (x.1 h1)
      rw [wrap_lo p g1, wrap_hi q g2 m4, ea, eb]
      clear eA eB f1 f2 ea eb
      omega
  · have ea : a = (A : Int) := by omega
    by_cases h2 : 9223372036854775808 ≤ B
    · have eb : b = (B : Int) - 18446744073709551616 := by omega
      have g1 : ¬ 9223372036854775808 ≤ p := fun x => h1 (f1.1 x).1
      have g2 : 9223372036854775808 ≤ q := f2.2 fun x => h1 (x.2 h2)
      rw [wrap_lo p g1, wrap_hi q g2 m4, ea, eb]
      clear eA eB f1 f2 ea eb
      omega
    · have eb : b = (B : Int) := by omega
      have g1 : ¬ 9223372036854775808 ≤ p := fun x => h1 (f1.1 x).1
      have g2 : ¬ 9223372036854775808 ≤ q := fun x => (f2.1 x) ⟨fun y => absurd y h1, fun y => absurd y h2⟩
      rw [wrap_lo p g1, wrap_lo q g2, ea, eb]
      clear eA eB f1 f2 ea eb
      omega
end Go.Proofs.Ytdlipponajilbaa
/- What the small functions of package fixed return, for every input: bound, size, Add, Sub, Neg, Mean, Clamp, Cut. -/
namespace Go.Proofs.Ytdlipponajilbaa
open Go.RowKit
theorem ret_u64 {a b : Int} (h : a = b) : Ending.returned (.int .u64 a) = .returned (.int .u64 b) := by rw [h]
set_option maxHeartbeats 400000 in
theorem bound_any (a m : Int) (w : World) (h0 : 0 ≤ m) (h1 : m ≤ 4611686018427387904) :
    Calls Try.prog 45 #[.int .i64 a, .int .i64 m] w fun e w' => e = .returned (.int .i64 (Fx.cl m a)) ∧ w' = w := by
  go_enter Try.func45, Try.ntmps45
  go_wp2
  all_goals
    go_ret
    exact ⟨ret_i64 (by unfold Fx.cl; split at * <;> omega), rfl⟩
set_option maxHeartbeats 400000 in
theorem size_any (a : Int) (w : World) (h0 : -9223372036854775808 ≤ a) (h1 : a ≤ 9223372036854775807) :
    Calls Try.prog 66 #[.int .i64 a] w fun e w' => e = .returned (.int .u64 (a.natAbs : Int)) ∧ w' = w := by
  go_enter Try.func66, Try.ntmps66
  go_wp2
  all_goals
    go_ret
    exact ⟨ret_u64 (by (try simp only [IntKind.wrap_u64]); omega), rfl⟩
theorem mul64_nat (x y : Nat) (w : World) (hx : x < 18446744073709551616) (hy : y < 18446744073709551616) :
    Calls Try.prog 65 #[.int .u64 x, .int .u64 y] w fun e w' => e = .returned (.tuple #[.int .u64 ((x * y / 18446744073709551616 : Nat) : Int), .int .u64 ((x * y % 18446744073709551616 : Nat) : Int)]) ∧ w' = w := by
  refine (mul64_any x y w (by omega) (by omega) (by omega) (by omega)).mono ?_
  rintro e w' ⟨rfl, rfl⟩
  exact ⟨ret2_u64 (by rw [← Int.natCast_mul]; rfl) (by rw [← Int.natCast_mul]; rfl), rfl⟩
set_option maxHeartbeats 400000 in
theorem add_any (a b : Int) (w : World) (ha0 : -9223372036854775808 ≤ a) (ha1 : a ≤ 9223372036854775807) (hb0 : -9223372036854775808 ≤ b) (hb1 : b ≤ 9223372036854775807) :
    Calls Try.prog 23 #[.int .i64 a, .int .i64 b] w fun e w' => e = .returned (.int .i64 (Fx.cl 4611686018427387904 (a + b))) ∧ w' = w := by
  go_enter Try.func23, Try.ntmps23
  go_wp2_with (go_at_call 45; refine (bound_any _ _ _ (by omega) (by omega)).mono ?_; rintro e w' ⟨rfl, rfl⟩)
  all_goals
    go_ret
    exact ⟨ret_i64 (by simp only [Fx.cl, wrap64] at *; omega), rfl⟩
set_option maxHeartbeats 400000 in
theorem sub_any (a b : Int) (w : World) (ha0 : -9223372036854775808 ≤ a) (ha1 : a ≤ 9223372036854775807) (hb0 : -9223372036854775808 ≤ b) (hb1 : b ≤ 9223372036854775807) :
    Calls Try.prog 25 #[.int .i64 a, .int .i64 b] w fun e w' => e = .returned (.int .i64 (Fx.cl 4611686018427387904 (a - b))) ∧ w' = w := by
  go_enter Try.func25, Try.ntmps25
  go_wp2_with (go_at_call 45; refine (bound_any _ _ _ (by omega) (by omega)).mono ?_; rintro e w' ⟨rfl, rfl⟩)
  all_goals
    go_ret
    exact ⟨ret_i64 (by simp only [Fx.cl, wrap64] at *; omega), rfl⟩
set_option maxHeartbeats 400000 in
theorem neg_any (a : Int) (w : World) (ha0 : -9223372036854775808 ≤ a) (ha1 : a ≤ 9223372036854775807) :
    Calls Try.prog 88 #[.int .i64 a] w fun e w' => e = .returned (.int .i64 (Fx.cl 4611686018427387904 (-a))) ∧ w' = w := by
  go_enter Try.func88, Try.ntmps88
  go_wp2_with (go_at_call 25; refine (sub_any _ _ _ (by omega) (by omega) (by omega) (by omega)).mono ?_; rintro e w' ⟨rfl, rfl⟩)
  go_ret
  exact ⟨rfl, rfl⟩
end Go.Proofs.Ytdlipponajilbaa
/- What quotient returns, for every input: the product divided down, cut at a limit either way. -/
namespace Go.Proofs.Ytdlipponajilbaa
open Go.RowKit
theorem w_drew (w : World) (n : Nat) : ∃ k, w.drewN n = w.drewN k := ⟨n, rfl⟩
theorem div64_int (hi lo y : Int) (H L Y : Nat) (hH : hi = H) (hL : lo = L) (hY : y = Y) (w : World) (h : H < Y) (hl : L < 18446744073709551616) (hy : Y < 18446744073709551616) :
    Calls Try.prog 67 #[.int .u64 hi, .int .u64 lo, .int .u64 y] w fun e w' => e = .returned (.tuple #[.int .u64 (((H * 18446744073709551616 + L) / Y : Nat) : Int), .int .u64 (((H * 18446744073709551616 + L) % Y : Nat) : Int)]) ∧ ∃ n, w' = w.drewN n := by
  rw [hH, hL, hY]
  exact div64_any H L Y w h hl hy
theorem mul64_int (x y : Int) (X Y : Nat) (hX : x = X) (hY : y = Y) (w : World) (hx : X < 18446744073709551616) (hy : Y < 18446744073709551616) :
    Calls Try.prog 65 #[.int .u64 x, .int .u64 y] w fun e w' => e = .returned (.tuple #[.int .u64 ((X * Y / 18446744073709551616 : Nat) : Int), .int .u64 ((X * Y % 18446744073709551616 : Nat) : Int)]) ∧ w' = w := by
  rw [hX, hY]
  exact mul64_nat X Y w hx hy
theorem nat_int (n : Nat) : ∃ x : Int, x = (n : Int) ∧ 0 ≤ x := ⟨n, rfl, Int.natCast_nonneg n⟩
set_option maxHeartbeats 2000000 in
theorem quotS_walk (a b m d : Int) (D : Nat) (hD : d = D) (w : World) (bl : Bool) (hbl : (a < 0 ∧ b < 0 ∧ bl = false) ∨ (a < 0 ∧ ¬ b < 0 ∧ bl = true) ∨ (¬ a < 0 ∧ b < 0 ∧ bl = true) ∨ (¬ a < 0 ∧ ¬ b < 0 ∧ bl = false)) (ha0 : -9223372036854775808 ≤ a) (ha1 : a ≤ 9223372036854775807) (hb0 : -9223372036854775808 ≤ b) (hb1 : b ≤ 9223372036854775807)
    (hd0 : 0 < d) (hd1 : d ≤ 9223372036854775807) (h0 : 0 ≤ m) (h1 : m ≤ 4611686018427387904) :
    Calls Try.prog 46 #[.int .i64 a, .int .i64 b, .int .i64 d, .int .i64 m] w fun e w' => e = .returned (.int .i64 (Fx.qs bl (a.natAbs * b.natAbs) D m)) ∧ ∃ n, w' = w.drewN n := by
  have hD' : Hid (d = D) := hD
  clear hD
  obtain ⟨P, hP⟩ : ∃ P, P = a.natAbs * b.natAbs := ⟨_, rfl⟩
  rw [← hP]
  have hP' : Hid (P = a.natAbs * b.natAbs) := hP
  clear hP
  rcases hbl with ⟨ha, hb, rfl⟩ | ⟨ha, hb, rfl⟩ | ⟨ha, hb, rfl⟩ | ⟨ha, hb, rfl⟩
  all_goals
    go_enter Try.func46, Try.ntmps46
    go_wp2_with fail
    refine (size_any a _ ha0 ha1).mono ?_
    rintro e w1 ⟨rfl, rfl⟩
    obtain ⟨A, hA, hA0⟩ := nat_int a.natAbs
    rw [← hA]
    have hA' : Hid (A = (a.natAbs : Int)) := hA
    clear hA
    go_wp2_with fail
    refine (size_any b _ hb0 hb1).mono ?_
    rintro e w1 ⟨rfl, rfl⟩
    obtain ⟨B, hB, hB0⟩ := nat_int b.natAbs
    rw [← hB]
    have hB' : Hid (B = (b.natAbs : Int)) := hB
    clear hB
    go_wp2_with fail
    refine (mul64_int A B _ _ hA'.out hB'.out _ (by omega) (by omega)).mono ?_
    rintro e w1 ⟨rfl, rfl⟩
    rw [← hP'.out]
    obtain ⟨hi, hhi, hi0⟩ := nat_int (P / 18446744073709551616)
    obtain ⟨lo, hlo, lo0⟩ := nat_int (P % 18446744073709551616)
    rw [← hhi, ← hlo]
    have hlol : lo < 18446744073709551616 := by omega
    have hhi' : Hid (hi = ((P / 18446744073709551616 : Nat) : Int)) := hhi
    have hlo' : Hid (lo = ((P % 18446744073709551616 : Nat) : Int)) := hlo
    clear hhi hlo
    by_cases hc : hi < d
    · go_wp2_with fail
      refine (div64_int hi lo d _ _ _ hhi'.out hlo'.out hD'.out _ (by have := hhi'.out; have := hD'.out; omega) (by have := hlo'.out; omega) (by have := hD'.out; omega)).mono ?_
      rintro e w2 ⟨rfl, n, rfl⟩
      rw [Fx.words P]
      obtain ⟨q, hq, q0⟩ := nat_int (P / D)
      obtain ⟨r, hr, r0⟩ := nat_int (P % D)
      rw [← hq, ← hr]
      have hq' : Hid (q = ((P / D : Nat) : Int)) := hq
      have hr' : Hid (r = ((P % D : Nat) : Int)) := hr
      clear hq hr
      by_cases hm : q < m
      · by_cases hrp : 0 < r
        all_goals
          go_wp2
          go_ret
          refine ⟨ret_i64 ?_, w_drew _ _⟩
          have dd := hD'.out
          have rr := hr'.out
          rw [hq'.out] at hm ⊢
          first
            | exact (Fx.qs_up P D m hm).symm
            | exact (Fx.qs_dn1 P D m (by omega) hm (by omega)).symm
            | exact (Fx.qs_dn0 P D m (by omega) hm (by omega)).symm
      · go_wp2
        go_ret
        refine ⟨ret_i64 ?_, w_drew _ _⟩
        have dd := hD'.out
        rw [hq'.out] at hm
        rw [Fx.qs_far _ P D m (by omega) h0 (by omega)]; rfl
    · go_wp2
      go_ret
      refine ⟨ret_i64 ?_, 0, rfl⟩
      have dd := hD'.out
      have hh := hhi'.out
      have := Fx.quo_big P D (by omega) (by omega)
      rw [Fx.qs_far _ P D m (by omega) h0 (by omega)]; rfl

theorem quotS_any (a b d m : Int) (w : World) (ha0 : -9223372036854775808 ≤ a) (ha1 : a ≤ 9223372036854775807) (hb0 : -9223372036854775808 ≤ b) (hb1 : b ≤ 9223372036854775807)
    (hd0 : 0 < d) (hd1 : d ≤ 9223372036854775807) (h0 : 0 ≤ m) (h1 : m ≤ 4611686018427387904) :
    Calls Try.prog 46 #[.int .i64 a, .int .i64 b, .int .i64 d, .int .i64 m] w fun e w' => e = .returned (.int .i64 (Fx.cl m (a * b / d))) ∧ ∃ n, w' = w.drewN n := by
  obtain ⟨D, hD⟩ := Int.eq_ofNat_of_zero_le (Int.le_of_lt hd0)
  by_cases hs : a < 0 ↔ b < 0
  · rw [show Fx.cl m (a * b / d) = Fx.cl m (a * b / (D : Int)) from by rw [hD], Fx.qs_same hs]
    refine quotS_walk a b m d D hD w false ?_ ha0 ha1 hb0 hb1 hd0 hd1 h0 h1
    by_cases ha : a < 0
    · exact Or.inl ⟨ha, hs.1 ha, rfl⟩
    · exact Or.inr (Or.inr (Or.inr ⟨ha, fun x => ha (hs.2 x), rfl⟩))
  · rw [show Fx.cl m (a * b / d) = Fx.cl m (a * b / (D : Int)) from by rw [hD], Fx.qs_other hs]
    refine quotS_walk a b m d D hD w true ?_ ha0 ha1 hb0 hb1 hd0 hd1 h0 h1
    by_cases ha : a < 0
    · exact Or.inr (Or.inl ⟨ha, fun x => hs ⟨fun _ => x, fun _ => ha⟩, rfl⟩)
    · exact Or.inr (Or.inr (Or.inl ⟨ha, Decidable.byContradiction fun x => hs ⟨fun y => absurd y ha, fun y => absurd y x⟩, rfl⟩))
end Go.Proofs.Ytdlipponajilbaa
/- What Mul, Scale, Drift, Rate, Shift and Power of package fixed return, for every input. -/
namespace Go.Proofs.Ytdlipponajilbaa
open Go.RowKit
theorem grown_drewN (w : World) (n : Nat) : Grown w (w.drewN n) := Grown.refl w
theorem ret_bool {a b : Bool} (h : a = b) : Ending.returned (.bool a) = .returned (.bool b) := by rw [h]
set_option maxHeartbeats 400000 in
theorem scale_any (a n d : Int) (w : World) (ha0 : -9223372036854775808 ≤ a) (ha1 : a ≤ 9223372036854775807) (hb0 : -9223372036854775808 ≤ n) (hb1 : n ≤ 9223372036854775807) (hd1 : d ≤ 9223372036854775807) :
    Calls Try.prog 24 #[.int .i64 a, .int .i64 n, .int .i64 d] w fun e w' => e = .returned (.int .i64 (if d ≤ 0 then 0 else Fx.cl 4611686018427387904 (a * n / d))) ∧ ∃ n, w' = w.drewN n := by
  by_cases hd : d ≤ 0
  · go_enter Try.func24, Try.ntmps24
    go_wp2
    go_ret
    exact ⟨rfl, 0, rfl⟩
  · go_enter Try.func24, Try.ntmps24
    go_wp2_with (go_at_call 46; refine (quotS_any _ _ _ _ _ (by omega) (by omega) (by omega) (by omega) (by omega) (by omega) (by omega) (by omega)).mono ?_; rintro e w' ⟨rfl, n, rfl⟩)
    go_ret
    exact ⟨by first | rfl | rw [if_neg (by omega)], w_drew _ _⟩
end Go.Proofs.Ytdlipponajilbaa
/- What Shift and Power of package fixed return, for every input. -/
namespace Fx
/-- a number times a power of two, cut; divided down where the power is below 0 -/
def sh (a n : Int) : Int := if n < 0 then a / 2 ^ (min (-n) 63).toNat else cl 4611686018427387904 (a * 2 ^ n.toNat)
theorem pow_le62 (k : Nat) (h : k ≤ 62) : (4611686018427387904 : Int) / 2 ^ k * 2 ^ k = 4611686018427387904 := by
  have e : (4611686018427387904 : Int) = 2 ^ (62 - k) * 2 ^ k := by
    rw [← Int.pow_add, show 62 - k + k = 62 from by omega]; decide
  have hp : (0 : Int) < 2 ^ k := Int.pow_pos (by decide)
  rw [e, Int.mul_ediv_cancel _ (by omega)]
theorem sh_far (a n : Int) (hn : 0 ≤ n) (h : 4611686018427387904 / 2 ^ n.toNat < a) (hk : n ≤ 62) : sh a n = 4611686018427387904 := by
  have hp : (0 : Int) < 2 ^ n.toNat := Int.pow_pos (by decide)
  unfold sh
  rw [if_neg (by omega)]
  refine cl_up (by decide) ?_
  have := pow_le62 n.toNat (by omega)
  have h2 := Int.mul_le_mul_of_nonneg_right (Int.le_of_lt h) (Int.le_of_lt hp)
  omega
theorem sh_nfar (a n : Int) (hn : 0 ≤ n) (h : a < -(4611686018427387904 / 2 ^ n.toNat)) (hk : n ≤ 62) : sh a n = -4611686018427387904 := by
  have hp : (0 : Int) < 2 ^ n.toNat := Int.pow_pos (by decide)
  unfold sh
  rw [if_neg (by omega)]
  refine cl_dn (by decide) ?_
  have := pow_le62 n.toNat (by omega)
  have h2 := Int.mul_le_mul_of_nonneg_right (Int.le_of_lt h) (Int.le_of_lt hp)
  rw [Int.neg_mul] at h2
  omega
theorem sh_in (a n : Int) (hn : 0 ≤ n) (h0 : -(4611686018427387904 / 2 ^ n.toNat) ≤ a) (h1 : a ≤ 4611686018427387904 / 2 ^ n.toNat) (hk : n ≤ 62) : sh a n = a * 2 ^ n.toNat ∧ -4611686018427387904 ≤ a * 2 ^ n.toNat ∧ a * 2 ^ n.toNat ≤ 4611686018427387904 := by
  have hp : (0 : Int) < 2 ^ n.toNat := Int.pow_pos (by decide)
  have := pow_le62 n.toNat (by omega)
  have h2 := Int.mul_le_mul_of_nonneg_right h0 (Int.le_of_lt hp)
  have h3 := Int.mul_le_mul_of_nonneg_right h1 (Int.le_of_lt hp)
  rw [Int.neg_mul] at h2
  refine ⟨?_, by omega, by omega⟩
  unfold sh
  rw [if_neg (by omega)]
  exact cl_in (by omega) (by omega)
theorem big_pow (k : Nat) (h : 63 ≤ k) : (9223372036854775808 : Int) ≤ 2 ^ k := by
  have h1 : (2 : Nat) ^ 63 ≤ 2 ^ k := Nat.pow_le_pow_right (by decide) h
  have h2 : ((2 ^ 63 : Nat) : Int) ≤ ((2 ^ k : Nat) : Int) := Int.ofNat_le.2 h1
  rw [Int.natCast_pow] at h2
  exact h2
theorem sh_hi_pos (a n : Int) (hn : 62 < n) (h : 0 < a) : sh a n = 4611686018427387904 := by
  have hp := big_pow n.toNat (by omega)
  unfold sh
  rw [if_neg (by omega)]
  refine cl_up (by decide) ?_
  have h2 := Int.mul_le_mul_of_nonneg_right (show 1 ≤ a from h) (show 0 ≤ (2 : Int) ^ n.toNat by omega)
  omega
theorem sh_hi_neg (a n : Int) (hn : 62 < n) (h : a < 0) : sh a n = -4611686018427387904 := by
  have hp := big_pow n.toNat (by omega)
  unfold sh
  rw [if_neg (by omega)]
  refine cl_dn (by decide) ?_
  have h2 := Int.mul_le_mul_of_nonneg_right (show a ≤ -1 by omega) (show 0 ≤ (2 : Int) ^ n.toNat by omega)
  omega
theorem sh_hi_zero (n : Int) (hn : 62 < n) : sh 0 n = 0 := by
  unfold sh
  rw [if_neg (by omega), Int.zero_mul]
  exact cl_in (by decide) (by decide)
theorem sh_neg (a n : Int) (hn : n < 0) : sh a n = a / 2 ^ (min (-n) 63).toNat := by unfold sh; rw [if_pos hn]
theorem most_zero (n : Int) (hn : 62 < n) : (4611686018427387904 : Int) / 2 ^ min n.toNat 64 = 0 := by
  have hp := big_pow (min n.toNat 64) (by omega)
  exact Int.ediv_eq_zero_of_lt (by decide) (by omega)
end Fx
namespace Go.Proofs.Ytdlipponajilbaa
open Go.RowKit
set_option maxHeartbeats 400000 in
theorem shift_neg (a n : Int) (w : World) (hn0 : -9223372036854775808 ≤ n) (hn : n < 0) :
    Calls Try.prog 44 #[.int .i64 a, .int .i64 n] w fun e w' => e = .returned (.int .i64 (Fx.sh a n)) ∧ w' = w := by
  by_cases h : n < -63
  · go_enter Try.func44, Try.ntmps44
    go_wp2
    go_ret
    exact ⟨ret_i64 (by rw [Fx.sh_neg a n hn, show (min (-n) 63).toNat = 63 from by omega, show (2 : Int) ^ 63 = 9223372036854775808 from by decide]), rfl⟩
  · go_enter Try.func44, Try.ntmps44
    go_wp2
    go_ret
    exact ⟨ret_i64 (by rw [Fx.sh_neg a n hn, show min (-n) 63 = -n from by omega]), rfl⟩
set_option maxHeartbeats 400000 in
theorem shift_mid (a n : Int) (w : World) (hn0 : 0 ≤ n) (hn : n ≤ 62) :
    Calls Try.prog 44 #[.int .i64 a, .int .i64 n] w fun e w' => e = .returned (.int .i64 (Fx.sh a n)) ∧ w' = w := by
  have hm : wrap64 (-(4611686018427387904 / 2 ^ n.toNat)) = -(4611686018427387904 / 2 ^ n.toNat) := by
    have h1 : (0 : Int) ≤ 4611686018427387904 / 2 ^ n.toNat := Int.ediv_nonneg (by decide) (Int.le_of_lt (Int.pow_pos (by decide)))
    have h2 : (4611686018427387904 : Int) / 2 ^ n.toNat ≤ 4611686018427387904 := Int.ediv_le_self _ (by decide)
    rw [wrap64]; omega
  have hm' : Hid (wrap64 (-(4611686018427387904 / 2 ^ n.toNat)) = -(4611686018427387904 / 2 ^ n.toNat)) := hm
  clear hm
  go_enter Try.func44, Try.ntmps44
  go_wp2
  all_goals go_ret
  · exact ⟨ret_i64 (Fx.sh_far a n hn0 ‹_› hn).symm, rfl⟩
  · rename_i h; rw [hm'.out] at h
    exact ⟨ret_i64 (Fx.sh_nfar a n hn0 h hn).symm, rfl⟩
  · rename_i h1 h; rw [hm'.out] at h
    obtain ⟨g1, g2, g3⟩ := Fx.sh_in a n hn0 h h1 hn
    exact ⟨ret_i64 (by rw [g1, wrap64]; omega), rfl⟩
set_option maxHeartbeats 400000 in
theorem shift_far (a n : Int) (w : World) (hn0 : 62 < n) (hn : n ≤ 9223372036854775807) :
    Calls Try.prog 44 #[.int .i64 a, .int .i64 n] w fun e w' => e = .returned (.int .i64 (Fx.sh a n)) ∧ w' = w := by
  have em := Fx.most_zero n hn0
  go_enter Try.func44, Try.ntmps44
  go_wp2
  all_goals go_ret
  · exact ⟨ret_i64 (Fx.sh_hi_pos a n hn0 ‹_›).symm, rfl⟩
  · exact ⟨ret_i64 (Fx.sh_hi_neg a n hn0 ‹_›).symm, rfl⟩
  · have h0 : a = 0 := by omega
    subst h0
    exact ⟨ret_i64 (by rw [Fx.sh_hi_zero n hn0, Int.zero_mul, wrap64]; decide), rfl⟩
theorem shift_any (a n : Int) (w : World) (hn0 : -9223372036854775808 ≤ n) (hn : n ≤ 9223372036854775807) :
    Calls Try.prog 44 #[.int .i64 a, .int .i64 n] w fun e w' => e = .returned (.int .i64 (Fx.sh a n)) ∧ w' = w := by
  by_cases h : n < 0
  · exact shift_neg a n w hn0 h
  · by_cases h' : n ≤ 62
    · exact shift_mid a n w (by omega) h'
    · exact shift_far a n w (by omega) hn
end Go.Proofs.Ytdlipponajilbaa
/- The digits of a root: plain arithmetic, and what root of package fixed returns: the greatest whole number whose square is at most the number of the two words. -/
namespace Fx
/-- what holds ahead of the digit of 2^p -/
structure Rt (N F p : Nat) : Prop where
  mul : F % 2 ^ p = 0
  le : F * F ≤ N
  lt : N < (F + 2 ^ p) * (F + 2 ^ p)
  top : F + 2 ^ p ≤ 18446744073709551616
theorem Rt.start (N : Nat) (h : N < 340282366920938463463374607431768211456) : Rt N 0 64 := ⟨by decide, by omega, by simpa using h, by decide⟩
theorem Rt.tried {N F p : Nat} (h : Rt N F (p + 1)) : F ||| 2 ^ p = F + 2 ^ p := by
  have h1 : F = F / 2 ^ (p + 1) * 2 ^ (p + 1) := by
    have := Nat.div_add_mod' F (2 ^ (p + 1)); rw [h.mul] at this; omega
  have h2 : 2 ^ p < 2 ^ (p + 1) := Nat.pow_lt_pow_right (by decide) (by omega)
  have := Nat.shiftLeft_add_eq_or_of_lt h2 (F / 2 ^ (p + 1))
  rw [Nat.shiftLeft_eq, ← h1] at this
  exact this.symm
theorem Rt.low {N F p : Nat} (h : Rt N F (p + 1)) : F + 2 ^ p < 18446744073709551616 := by
  have := h.top
  have h2 : 2 ^ p < 2 ^ (p + 1) := Nat.pow_lt_pow_right (by decide) (by omega)
  omega
theorem Rt.yes {N F p : Nat} (h : Rt N F (p + 1)) (hc : (F + 2 ^ p) * (F + 2 ^ p) ≤ N) : Rt N (F + 2 ^ p) p := by
  have e : F + 2 ^ p + 2 ^ p = F + 2 ^ (p + 1) := by rw [Nat.pow_succ]; omega
  refine ⟨?_, hc, by rw [e]; exact h.lt, by rw [e]; exact h.top⟩
  rw [Nat.add_mod_right]
  have h1 : F = F / 2 ^ (p + 1) * 2 ^ (p + 1) := by
    have := Nat.div_add_mod' F (2 ^ (p + 1)); rw [h.mul] at this; omega
  rw [h1, Nat.pow_succ, Nat.mul_comm (2 ^ p) 2, ← Nat.mul_assoc, Nat.mul_mod_left]
theorem Rt.no {N F p : Nat} (h : Rt N F (p + 1)) (hc : N < (F + 2 ^ p) * (F + 2 ^ p)) : Rt N F p := by
  refine ⟨?_, h.le, hc, Nat.le_of_lt h.low⟩
  have h1 : F = F / 2 ^ (p + 1) * 2 ^ (p + 1) := by
    have := Nat.div_add_mod' F (2 ^ (p + 1)); rw [h.mul] at this; omega
  rw [h1, Nat.pow_succ, Nat.mul_comm (2 ^ p) 2, ← Nat.mul_assoc, Nat.mul_mod_left]
theorem Rt.done {N F : Nat} (h : Rt N F 0) : F * F ≤ N ∧ N < (F + 1) * (F + 1) ∧ F < 18446744073709551616 := ⟨h.le, h.lt, by have := h.top; omega⟩
/-- two words against two words -/
theorem cmp_words (T H L : Nat) (hL : L < 18446744073709551616) : (T / 18446744073709551616 < H ∨ T / 18446744073709551616 = H ∧ T % 18446744073709551616 ≤ L) ↔ T ≤ H * 18446744073709551616 + L := by omega
end Fx
namespace Go.Proofs.Ytdlipponajilbaa
open Go.RowKit
theorem grown_trans {a b c : World} (h : Grown a b) (g : Grown b c) : Grown a c :=
  ⟨World.keptBut_trans h.1 (by refine World.keptBut_mono ?_ g.1; exact fun _ f => f.elim), fun x => (g.2.1 x).trans (h.2.1 x), Nat.le_trans h.2.2 g.2.2⟩
set_option maxHeartbeats 400000 in
theorem root_walk (H L : Nat) (h l : Int) (eh : Hid (h = (H : Int))) (el : Hid (l = (L : Int))) (w : World) (h0 : 0 ≤ h) (l0 : 0 ≤ l) (hH : h < 18446744073709551616) (hL : l < 18446744073709551616) :
    Calls Try.prog 68 #[.agg #[.int .u64 h, .int .u64 l]] w fun e w' => ∃ F : Nat, e = .returned (.int .u64 F) ∧ F * F ≤ H * 18446744073709551616 + L ∧ H * 18446744073709551616 + L < (F + 1) * (F + 1) ∧ F < 18446744073709551616 ∧ Grown w w' ∧ Below w.heap.size w w' := by
  obtain ⟨N, hN⟩ : ∃ N, N = H * 18446744073709551616 + L := ⟨_, rfl⟩
  rw [← hN]
  have hN' : Hid (N = H * 18446744073709551616 + L) := hN
  have hNl : Hid (N < 340282366920938463463374607431768211456) := by show _ < _; have := eh.out; have := el.out; omega
  clear hN
  go_enter Try.func68, Try.ntmps68
  go_wp2; go_step3; go_wp2; go_step3; go_wp2
  go_loop [3, 4] (fun f i => ∃ F p : Nat, f = .int .u64 (F : Int) ∧ i = .int .i64 ((p : Int) - 1) ∧ Hid (Fx.Rt N F p) ∧ (p : Int) ≤ 64) (fun _ i => (intOf i + 1).toNat)
  case atStart => exact ⟨0, 64, rfl, rfl, Fx.Rt.start N hNl.out, by omega⟩
  case round =>
    obtain ⟨F, p, rfl, rfl, hR, hp⟩ := hrel
    rcases p with _ | p
    · go_wp2
      go_ret
      obtain ⟨r1, r2, r3⟩ := hR.out.done
      exact ⟨F, rfl, r1, r2, r3, (Grown.refl _).alloc _ _, (Below.refl _ _).alloc (Nat.le_refl _) _⟩
    · obtain ⟨T, hT, hT0⟩ : ∃ T : Int, T = ((F + 2 ^ p : Nat) : Int) ∧ 0 ≤ T := ⟨_, rfl, Int.natCast_nonneg _⟩
      have hp' : p ≤ 63 := by omega
      have eT : bits .or .u64 (F : Int) (IntKind.u64.wrap (2 ^ p)) = T := by
        have h1 := hR.out.low
        have h2 := hR.out.tried
        rw [show IntKind.u64.wrap ((2 : Int) ^ p) = ((2 ^ p : Nat) : Int) from by
          rw [show (2 : Int) ^ p = ((2 ^ p : Nat) : Int) from by rw [Int.natCast_pow]; rfl, wrap_nat, Nat.mod_eq_of_lt (Nat.lt_of_le_of_lt (Nat.le_add_left _ _) h1)], bits_or_u64_nat _ _ (Nat.lt_of_le_of_lt (Nat.le_add_right _ _) h1) (Nat.lt_of_le_of_lt (Nat.le_add_left _ _) h1), h2, hT]
      have hT' : Hid (T = ((F + 2 ^ p : Nat) : Int)) := hT
      have hlow : Hid (F + 2 ^ p < 18446744073709551616) := hR.out.low
      clear hT hp'
      have hp : (p : Int) ≤ 63 := by omega
      go_wp2_with fail
      refine (mul64_int T T _ _ hT'.out hT'.out _ hlow.out hlow.out).mono ?_
      rintro e w1 ⟨rfl, hw1⟩
      subst hw1
      obtain ⟨th, hth, th0⟩ := nat_int ((F + 2 ^ p) * (F + 2 ^ p) / 18446744073709551616)
      obtain ⟨tl, htl, tl0⟩ := nat_int ((F + 2 ^ p) * (F + 2 ^ p) % 18446744073709551616)
      rw [← hth, ← htl]
      have hth' : Hid (th = (((F + 2 ^ p) * (F + 2 ^ p) / 18446744073709551616 : Nat) : Int)) := hth
      have htl' : Hid (tl = (((F + 2 ^ p) * (F + 2 ^ p) % 18446744073709551616 : Nat) : Int)) := htl
      clear hth htl
      go_wp2_with fail
      have yes : Hid (th < h ∨ th = h ∧ tl ≤ l → Fx.Rt N (F + 2 ^ p) p) := fun hc => hR.out.yes (by
        rw [hN'.out]; refine (Fx.cmp_words _ H L (by have := el.out; omega)).1 ?_
        have := hth'.out; have := htl'.out; have := eh.out; have := el.out; omega)
      have no : Hid (¬ (th < h ∨ th = h ∧ tl ≤ l) → Fx.Rt N F p) := fun hc => hR.out.no (by
        rw [hN'.out]; refine Nat.lt_of_not_le fun x => hc ?_
        have := (Fx.cmp_words _ H L (by have := el.out; omega)).2 x
        have := hth'.out; have := htl'.out; have := eh.out; have := el.out; omega)
      clear hR hlow hNl
      have i0 : ∀ (x y : Value) w, (Instr.index 87 (.agg #[x, y]) (.int .i64 0)).run Try.prog w = .ok x w := fun _ _ _ => by kernel_rfl
      have i1 : ∀ (x y : Value) w, (Instr.index 87 (.agg #[x, y]) (.int .i64 1)).run Try.prog w = .ok y w := fun _ _ _ => by kernel_rfl
      by_cases c1 : h < th
      · refine wp_loop_rounds 3 ?_
        rw [rounds_succ]
        go_wp2
        go_round
        case rel => exact ⟨F, p, rfl, by go_num, no.out (by omega), by omega⟩
        case measure => first | (simp [intOf]; done) | (simp [intOf]; omega)
      by_cases c2 : th < h
      · refine wp_loop_rounds 3 ?_
        rw [rounds_succ]
        go_wp2
        go_round
        case rel => exact ⟨F + 2 ^ p, p, by rw [hT'.out], by go_num, yes.out (Or.inl c2), by omega⟩
        case measure => first | (simp [intOf]; done) | (simp [intOf]; omega)
      obtain rfl : th = h := by omega
      by_cases c3 : l < tl
      · refine wp_loop_rounds 3 ?_
        rw [rounds_succ]
        go_wp2
        rw [rounds_succ]
        go_wp2
        go_round
        case rel => exact ⟨F, p, rfl, by go_num, no.out (by omega), by omega⟩
        case measure => first | (simp [intOf]; done) | (simp [intOf]; omega)
      by_cases c4 : tl < l
      · refine wp_loop_rounds 3 ?_
        rw [rounds_succ]
        go_wp2
        rw [rounds_succ]
        go_wp2
        go_round
        case rel => exact ⟨F + 2 ^ p, p, by rw [hT'.out], by go_num, yes.out (Or.inr ⟨by simp, by omega⟩), by omega⟩
        case measure => first | (simp [intOf]; done) | (simp [intOf]; omega)
      obtain rfl : tl = l := by omega
      refine wp_loop_rounds 3 ?_
      rw [rounds_succ]
      go_wp2
      rw [rounds_succ]
      go_wp2
      rw [rounds_succ]
      go_wp2
      go_round
      case rel => exact ⟨F + 2 ^ p, p, by rw [hT'.out], by go_num, yes.out (Or.inr ⟨by simp, by omega⟩), by omega⟩
      case measure => first | (simp [intOf]; done) | (simp [intOf]; omega)
theorem root_any (h l : Int) (H L : Nat) (eh : h = (H : Int)) (el : l = (L : Int)) (w : World) (hH : H < 18446744073709551616) (hL : L < 18446744073709551616) :
    Calls Try.prog 68 #[.agg #[.int .u64 h, .int .u64 l]] w fun e w' => ∃ F : Nat, e = .returned (.int .u64 F) ∧ F * F ≤ H * 18446744073709551616 + L ∧ H * 18446744073709551616 + L < (F + 1) * (F + 1) ∧ F < 18446744073709551616 ∧ Grown w w' :=
  (root_walk H L h l eh el w (by omega) (by omega) (by omega) (by omega)).mono fun _ _ ⟨F, h1, h2, h3, h4, h5, _⟩ => ⟨F, h1, h2, h3, h4, h5⟩
theorem root_below (h l : Int) (H L : Nat) (eh : h = (H : Int)) (el : l = (L : Int)) (w : World) (hH : H < 18446744073709551616) (hL : L < 18446744073709551616) :
    Calls Try.prog 68 #[.agg #[.int .u64 h, .int .u64 l]] w fun e w' => ∃ F : Nat, e = .returned (.int .u64 F) ∧ F * F ≤ H * 18446744073709551616 + L ∧ H * 18446744073709551616 + L < (F + 1) * (F + 1) ∧ F < 18446744073709551616 ∧ Below w.heap.size w w' :=
  (root_walk H L h l eh el w (by omega) (by omega) (by omega) (by omega)).mono fun _ _ ⟨F, h1, h2, h3, h4, _, h5⟩ => ⟨F, h1, h2, h3, h4, h5⟩
end Go.Proofs.Ytdlipponajilbaa
/- What Root of package fixed returns: the greatest whole number whose square is at most the number times 2^32; 0 where the number is not above 0. -/
namespace Go.Proofs.Ytdlipponajilbaa
open Go.RowKit
theorem sq_lt (F A : Nat) (h : F * F ≤ A * 4294967296) (hA : A < 9223372036854775808) : F < 9223372036854775808 := by
  refine Nat.lt_of_not_le fun x => ?_
  have := Nat.mul_le_mul x x
  omega
end Go.Proofs.Ytdlipponajilbaa
/- Plain numbers: digits of 16 bits, the lowest first, and the number that they are (no run of the model in this text). -/
namespace Bg
def val : List Nat → Nat
  | [] => 0
  | d :: r => d + 65536 * val r
def dok (l : List Nat) : Prop := ∀ d ∈ l, d < 65536
/-- digits without noughts at the front -/
def can (l : List Nat) : Prop := dok l ∧ (l.length = 0 ∨ l.getD (l.length - 1) 0 ≠ 0)
theorem getD_at (a : List Nat) (k : Nat) (h : k < a.length) : a.getD k 0 = a[k] := by
  rw [List.getD_eq_getElem?_getD, List.getElem?_eq_getElem h]; rfl
theorem val_append (a b : List Nat) : val (a ++ b) = val a + 65536 ^ a.length * val b := by
  induction a with
  | nil => simp [val]
  | cons d r ih =>
    rw [List.cons_append, val, val, ih, List.length_cons, Nat.pow_succ, Nat.mul_add, Nat.mul_comm (65536 ^ r.length) 65536, Nat.mul_assoc]
    omega
theorem val_snoc (a : List Nat) (d : Nat) : val (a ++ [d]) = val a + 65536 ^ a.length * d := by
  rw [val_append]; simp [val]
theorem val_lt (a : List Nat) (h : dok a) : val a < 65536 ^ a.length := by
  induction a with
  | nil => simp [val]
  | cons d r ih =>
    have h1 := h d (by simp)
    have h2 := ih fun x hx => h x (by simp [hx])
    rw [val, List.length_cons, Nat.pow_succ]
    omega
theorem take_succ (a : List Nat) (k : Nat) (h : k < a.length) : a.take (k + 1) = a.take k ++ [a.getD k 0] := by
  rw [List.take_succ_eq_append_getElem h, getD_at _ _ h]
theorem val_take_succ (a : List Nat) (k : Nat) (h : k < a.length) : val (a.take (k + 1)) = val (a.take k) + 65536 ^ k * a.getD k 0 := by
  rw [take_succ a k h, val_snoc, List.length_take, Nat.min_eq_left (by omega)]
theorem val_split (a : List Nat) (k : Nat) (h : k ≤ a.length) : val a = val (a.take k) + 65536 ^ k * val (a.drop k) := by
  have := val_append (a.take k) (a.drop k)
  rw [List.take_append_drop, List.length_take, Nat.min_eq_left h] at this
  exact this
theorem val_take_all (a : List Nat) (k : Nat) (h : a.length ≤ k) : val (a.take k) = val a := by rw [List.take_of_length_le h]
theorem dok_take {a : List Nat} (h : dok a) (k : Nat) : dok (a.take k) := fun d hd => h d (List.mem_of_mem_take hd)
theorem dok_drop {a : List Nat} (h : dok a) (k : Nat) : dok (a.drop k) := fun d hd => h d (List.mem_of_mem_drop hd)
theorem dok_getD {a : List Nat} (h : dok a) (k : Nat) : a.getD k 0 < 65536 := by
  by_cases hk : k < a.length
  · rw [getD_at _ _ hk]; exact h _ (List.getElem_mem hk)
  · rw [List.getD_eq_getElem?_getD, List.getElem?_eq_none (by omega)]; simp
theorem dok_snoc {a : List Nat} (h : dok a) {d : Nat} (hd : d < 65536) : dok (a ++ [d]) := by
  intro x hx
  simp at hx
  rcases hx with hx | hx
  · exact h x hx
  · omega
theorem dok_nil : dok [] := fun d hd => by simp at hd
theorem can_nil : can [] := ⟨dok_nil, Or.inl rfl⟩
/-- the front digit tells the size -/
theorem can_ge {a : List Nat} (h : can a) (hp : 0 < a.length) : 65536 ^ (a.length - 1) ≤ val a := by
  have h1 : a.getD (a.length - 1) 0 ≠ 0 := by rcases h.2 with h2 | h2 <;> omega
  have h2 := val_take_succ a (a.length - 1) (by omega)
  rw [show a.length - 1 + 1 = a.length from by omega, List.take_length] at h2
  have h3 := Nat.mul_le_mul_left (65536 ^ (a.length - 1)) (show 1 ≤ a.getD (a.length - 1) 0 by omega)
  omega
theorem can_len {a : List Nat} (h : can a) (k : Nat) (hv : val a < 65536 ^ k) : a.length ≤ k := by
  refine Nat.le_of_not_lt fun x => ?_
  have h1 := can_ge h (by omega)
  have h2 : 65536 ^ k ≤ 65536 ^ (a.length - 1) := Nat.pow_le_pow_right (by decide) (by omega)
  omega
/-- fewer digits: less -/
theorem cmp_len {a b : List Nat} (ha : dok a) (hb : can b) (h : a.length < b.length) : val a < val b := by
  have h1 := val_lt a ha
  have h2 := can_ge hb (by omega)
  have h3 : 65536 ^ a.length ≤ 65536 ^ (b.length - 1) := Nat.pow_le_pow_right (by decide) (by omega)
  omega
theorem drop_at (a : List Nat) (k : Nat) (h : k < a.length) : a.drop k = a.getD k 0 :: a.drop (k + 1) := by
  rw [List.drop_eq_getElem_cons h, getD_at _ _ h]
/-- as many digits, the same from a place on, and less at it: less -/
theorem cmp_at {a b : List Nat} (ha : dok a) (k : Nat) (hk : k < a.length) (hl : a.length = b.length) (he : val (a.drop (k + 1)) = val (b.drop (k + 1))) (hd : a.getD k 0 < b.getD k 0) : val a < val b := by
  rw [val_split a k (by omega), val_split b k (by omega), drop_at a k hk, drop_at b k (by omega), val, val, he]
  have h1 := val_lt (a.take k) (dok_take ha k)
  rw [List.length_take, Nat.min_eq_left (by omega)] at h1
  have h2 := Nat.mul_le_mul_left (65536 ^ k) (show a.getD k 0 + 65536 * val (b.drop (k + 1)) + 1 ≤ b.getD k 0 + 65536 * val (b.drop (k + 1)) by omega)
  rw [Nat.mul_add] at h2
  omega
theorem drop_same {a b : List Nat} (k : Nat) (hk : k < a.length) (hl : a.length = b.length) (he : val (a.drop (k + 1)) = val (b.drop (k + 1))) (hd : a.getD k 0 = b.getD k 0) : val (a.drop k) = val (b.drop k) := by
  rw [drop_at a k hk, drop_at b k (by omega), val, val, he, hd]
/-- noughts at the front change nothing -/
theorem trimmed (a : List Nat) (m : Nat) (h : dok a) (hm : m ≤ a.length) (hz : val (a.drop m) = 0) (hn : m = 0 ∨ a.getD (m - 1) 0 ≠ 0) : can (a.take m) ∧ val (a.take m) = val a := by
  have hl : (a.take m).length = m := by rw [List.length_take]; omega
  refine ⟨⟨dok_take h m, ?_⟩, ?_⟩
  · rw [hl]
    rcases hn with hn | hn
    · exact Or.inl hn
    · by_cases h0 : m = 0
      · exact Or.inl h0
      · right
        rw [getD_at _ _ (by rw [hl]; omega), List.getElem_take, ← getD_at _ _ (by omega)]
        exact hn
  · rw [val_split a m hm, hz]; omega
theorem drop_zero (a : List Nat) (k : Nat) (hk : k < a.length) (h : val (a.drop (k + 1)) = 0) (hd : a.getD k 0 = 0) : val (a.drop k) = 0 := by
  rw [drop_at a k hk, val, h, hd]
theorem val_cmp_zero (a : List Nat) : val (a.drop a.length) = 0 := by rw [List.drop_length]; rfl
end Bg
/- What trim and compare of the reference's whole numbers return. -/
namespace Go.Proofs.Ytdlipponajilbaa
open Go.RowKit
/-- a slice at an address reads as these digits -/
def Rd (w : World) (ao : Option Addr) (ds : List Nat) : Prop := ∀ k, k < ds.length → ∃ b, ao = some ⟨b, 0, none⟩ ∧ b < w.heap.size ∧ w.cell? ⟨b, k, none⟩ = some (.int .i64 ((ds.getD k 0 : Nat) : Int))
theorem Rd.below {B : Nat} {w w' : World} {ao : Option Addr} {ds : List Nat} (h : Rd w ao ds) (hb : Below B w w') (hB : w.heap.size ≤ B) : Rd w' ao ds := fun k hk => by
  obtain ⟨b, h1, h2, h3⟩ := h k hk
  exact ⟨b, h1, Nat.lt_of_lt_of_le h2 hb.size, (hb.cell (p := ⟨b, k, none⟩) (Nat.lt_of_lt_of_le h2 hB)).trans h3⟩
theorem Rd.drew {w : World} {ao : Option Addr} {ds : List Nat} (h : Rd w ao ds) (n : Nat) : Rd (w.drewN n) ao ds := h
theorem Rd.take {w : World} {ao : Option Addr} {ds : List Nat} (h : Rd w ao ds) (m : Nat) : Rd w ao (ds.take m) := fun k hk => by
  rw [List.length_take] at hk
  obtain ⟨b, h1, h2, h3⟩ := h k (by omega)
  refine ⟨b, h1, h2, ?_⟩
  rw [Bg.getD_at _ _ (by rw [List.length_take]; omega), List.getElem_take, ← Bg.getD_at _ _ (by omega)]
  exact h3
theorem below_drewN {B : Nat} {a w : World} (h : Below B a w) (n : Nat) : Below B a (w.drewN n) := ⟨h.os, h.tape, h.output, h.size, h.block⟩
theorem w_drew2 (w : World) (n m : Nat) : ∃ k, (w.drewN n).drewN m = w.drewN k := ⟨n + m, by simp [World.drewN, Nat.add_assoc]⟩
theorem drew3 (w : World) (n m k : Nat) : ((w.drewN n).drewN m).drewN k = w.drewN (n + m + k) := by simp [World.drewN, Nat.add_assoc]
theorem cells_int : Try.prog.cellsOf 3 = 1 := by kernel_rfl
theorem idx_run {ao : Option Addr} {b : Nat} (n cap k : Nat) (i : Int) (h : ao = some ⟨b, 0, none⟩) (hi : i = (k : Int)) (hk : (k : Int) < n) (w : World) : Sem.run Try.prog (Instr.indexAt 67 (.slice ao n cap) (.int .i64 i)) w = .ok (.pointer (some ⟨b, k, none⟩)) w := by
  subst h hi
  have u46 := Try.underlying67
  have u3 := Try.underlying3
  have c3 := cells_int
  have h0 : (0 : Int) ≤ k := Int.natCast_nonneg k
  go_simp
theorem Rd.at {w : World} {ao : Option Addr} {ds : List Nat} (h : Rd w ao ds) (hd : Bg.dok ds) (k : Nat) (hk : k < ds.length) :
    ∃ (b : Nat) (x : Int), Hid (ao = some ⟨b, 0, none⟩) ∧ b < w.heap.size ∧ w.cell? ⟨b, k, none⟩ = some (.int .i64 x) ∧ Hid (x = ((ds.getD k 0 : Nat) : Int)) ∧ 0 ≤ x ∧ x ≤ 65535 := by
  obtain ⟨b, h1, h2, h3⟩ := h k hk
  have := Bg.dok_getD hd k
  exact ⟨b, _, h1, h2, h3, rfl, Int.natCast_nonneg _, by omega⟩
set_option maxHeartbeats 400000 in
theorem trim_any (ao : Option Addr) (ds : List Nat) (cap : Nat) (w : World) (hn1 : (ds.length : Int) ≤ 1000000) (hc : (ds.length : Int) ≤ cap) (hr : Rd w ao ds) (hd : Bg.dok ds) :
    Calls Try.prog 85 #[.slice ao ds.length cap] w fun e w' => ∃ m, e = .returned (.slice ao m cap) ∧ m ≤ ds.length ∧ Bg.can (ds.take m) ∧ Bg.val (ds.take m) = Bg.val ds ∧ w' = w := by
  have hr' : Hid (Rd w ao ds) := hr
  have hd' : Hid (Bg.dok ds) := hd
  clear hr hd
  go_enter Try.func85, Try.ntmps85
  go_wp2
  go_loop [3] (fun i => ∃ m : Nat, i = .int .i64 (m : Int) ∧ (m : Int) ≤ ds.length ∧ Hid (Bg.val (ds.drop m) = 0)) (fun i => (intOf i).toNat)
  case atStart => exact ⟨ds.length, rfl, by omega, Bg.val_cmp_zero ds⟩
  case round =>
    obtain ⟨m, rfl, hm, hz⟩ := hrel
    rcases m with _ | m
    · go_wp2
      go_ret
      obtain ⟨t1, t2⟩ := Bg.trimmed ds 0 hd'.out (by omega) hz.out (Or.inl rfl)
      exact ⟨0, rfl, by omega, t1, t2, rfl⟩
    · obtain ⟨b, x, h1, h2, h3, hx, x0, x1⟩ := hr'.out.at hd'.out m (by omega)
      have hi : ∀ w, Sem.run Try.prog (Instr.indexAt 67 (.slice ao ds.length cap) (.int .i64 (m : Int))) w = .ok (.pointer (some ⟨b, m, none⟩)) w := idx_run ds.length cap m m h1.out rfl (by omega)
      have hm' : (m : Int) + 1 ≤ ds.length := by omega
      by_cases hq : (x == 0) = true
      · have hq' : x = 0 := by simpa using hq
        have hq2 : Hid (ds.getD m 0 = 0) := by have := hx.out; show _ = _; omega
        clear hq'
        go_wp2
        go_round
        case rel => exact ⟨m, rfl, by omega, Bg.drop_zero ds m (by omega) hz.out hq2.out⟩
        case measure => simp [intOf]
      · have hq' : (x == 0) = false := by simpa using hq
        have hq2 : Hid (ds.getD m 0 ≠ 0) := by have := hx.out; have : x ≠ 0 := by simpa using hq'
                                               show _ ≠ _; omega
        clear hq
        go_wp2
        go_ret
        obtain ⟨t1, t2⟩ := Bg.trimmed ds (m + 1) hd'.out (by omega) hz.out (Or.inr (by simpa using hq2.out))
        exact ⟨m + 1, rfl, by omega, t1, t2, rfl⟩
set_option maxHeartbeats 1000000 in
theorem compare_any (ao bo : Option Addr) (A B : List Nat) (ca cb : Nat) (w : World) (hA : (A.length : Int) ≤ 1000000) (_hB : (B.length : Int) ≤ 1000000) (ra : Rd w ao A) (rb : Rd w bo B) (da : Bg.can A) (db : Bg.can B) :
    Calls Try.prog 73 #[.slice ao A.length ca, .slice bo B.length cb] w fun e w' => ∃ r : Int, e = .returned (.int .i64 r) ∧ ((r = -1 ∧ Bg.val A < Bg.val B) ∨ (r = 0 ∧ Bg.val A = Bg.val B) ∨ (r = 1 ∧ Bg.val B < Bg.val A)) ∧ ∃ n, w' = w.drewN n := by
  have ra' : Hid (Rd w ao A) := ra
  have rb' : Hid (Rd w bo B) := rb
  have da' : Hid (Bg.can A) := da
  have db' : Hid (Bg.can B) := db
  clear ra rb da db
  by_cases hl : ((A.length : Int) == B.length) = true
  · have hl' : A.length = B.length := by have : (A.length : Int) = B.length := by simpa using hl
                                         omega
    have hl2 : Hid (A.length = B.length) := hl'
    have hl3 : ((A.length : Int) != B.length) = false := by rw [bne_eq_false_iff_eq]; omega
    clear hl' hl
    go_enter Try.func73, Try.ntmps73
    go_wp2
    go_loopw [5] (fun i wr => ∃ (j : Int) (n : Nat), i = .int .i64 j ∧ -1 ≤ j ∧ j < A.length ∧ wr = w.drewN n ∧ Hid (Bg.val (A.drop (j + 1).toNat) = Bg.val (B.drop (j + 1).toNat))) (fun i _ => (intOf i + 1).toNat)
    case atStart => exact ⟨(A.length : Int) - 1, 0, rfl, by omega, by omega, rfl, by show _ = _; rw [show ((A.length : Int) - 1 + 1).toNat = A.length from by omega, Bg.val_cmp_zero, hl2.out, Bg.val_cmp_zero]⟩
    case round =>
      obtain ⟨j, n, rfl, hj0, hj1, rfl, hz⟩ := hrel
      by_cases hj : j < 0
      · go_wp2
        go_ret
        refine ⟨0, rfl, Or.inr (Or.inl ⟨rfl, ?_⟩), _, rfl⟩
        have := hz.out
        rw [show (j + 1).toNat = 0 from by omega] at this
        simpa using this
      · have hlen := hl2.out
        obtain ⟨b, x, h1, h2, h3, hx, x0, x1⟩ := ra'.out.at da'.out.1 j.toNat (by omega)
        obtain ⟨c, y, g1, g2, g3, hy, y0, y1⟩ := rb'.out.at db'.out.1 j.toNat (by omega)
        have hi : ∀ w, Sem.run Try.prog (Instr.indexAt 67 (.slice ao A.length ca) (.int .i64 j)) w = .ok (.pointer (some ⟨b, j.toNat, none⟩)) w := idx_run A.length ca j.toNat j h1.out (by omega) (by omega)
        have hk : ∀ w, Sem.run Try.prog (Instr.indexAt 67 (.slice bo B.length cb) (.int .i64 j)) w = .ok (.pointer (some ⟨c, j.toNat, none⟩)) w := idx_run B.length cb j.toNat j g1.out (by omega) (by omega)
        have hz2 : Hid (Bg.val (A.drop (j.toNat + 1)) = Bg.val (B.drop (j.toNat + 1))) := by
          have := hz.out
          rw [show (j + 1).toNat = j.toNat + 1 from by omega] at this
          exact this
        clear hlen hz
        by_cases c1 : x < y
        · go_wp2
          go_quiet (fail)
          go_wp2
          go_ret
          refine ⟨-1, rfl, Or.inl ⟨rfl, ?_⟩, w_drew2 _ _ _⟩
          exact Bg.cmp_at da'.out.1 j.toNat (by omega) hl2.out hz2.out (by have := hx.out; have := hy.out; omega)
        by_cases c2 : y < x
        · go_wp2
          go_quiet (fail)
          go_wp2
          go_quiet (fail)
          go_wp2
          go_ret
          refine ⟨1, rfl, Or.inr (Or.inr ⟨rfl, ?_⟩), _, drew3 _ _ _ _⟩
          have hlen := hl2.out
          exact Bg.cmp_at db'.out.1 j.toNat (by omega) hlen.symm hz2.out.symm (by have := hx.out; have := hy.out; omega)
        go_wp2
        go_quiet (fail)
        go_wp2
        go_quiet (fail)
        go_wp2
        go_roundw
        case rel =>
          refine ⟨j - 1, _, by go_num, by omega, by omega, rfl, ?_⟩
          have hlen := hl2.out
          show _ = _
          rw [show (j - 1 + 1).toNat = j.toNat from by omega]
          exact Bg.drop_same j.toNat (by omega) hlen hz2.out (by have := hx.out; have := hy.out; omega)
        case measure => simp [intOf]; omega
  · have hl' : ((A.length : Int) == B.length) = false := by simpa using hl
    have hne : A.length ≠ B.length := by
      have : (A.length : Int) ≠ B.length := by simpa using hl'
      omega
    have hne' : Hid (A.length ≠ B.length) := hne
    have hl3 : ((A.length : Int) != B.length) = true := by rw [bne_iff_ne]; omega
    clear hl hl' hne
    by_cases c1 : (A.length : Int) < B.length
    · go_enter Try.func73, Try.ntmps73
      go_wp2
      go_ret
      exact ⟨-1, rfl, Or.inl ⟨rfl, Bg.cmp_len da'.out.1 db'.out (by omega)⟩, 0, rfl⟩
    · go_enter Try.func73, Try.ntmps73
      go_wp2
      go_ret
      exact ⟨1, rfl, Or.inr (Or.inr ⟨rfl, Bg.cmp_len db'.out.1 da'.out (by have := hne'.out; omega)⟩), 0, rfl⟩
end Go.Proofs.Ytdlipponajilbaa
/- What plus of the reference's whole numbers returns: the digits of the sum. -/
namespace Bg
theorem tk (a : List Nat) (k : Nat) : val (a.take (k + 1)) = val (a.take k) + 65536 ^ k * a.getD k 0 := by
  by_cases h : k < a.length
  · exact val_take_succ a k h
  · rw [List.take_of_length_le (by omega), List.take_of_length_le (by omega), List.getD_eq_getElem?_getD, List.getElem?_eq_none (by omega)]
    simp
theorem plus_step (A B O : List Nat) (k c d q : Nat) (hk : O.length = k) (hd : d + 65536 * q = c + A.getD k 0 + B.getD k 0) (h : val O + 65536 ^ k * c = val (A.take k) + val (B.take k)) :
    val (O ++ [d]) + 65536 ^ (k + 1) * q = val (A.take (k + 1)) + val (B.take (k + 1)) := by
  have e : 65536 ^ k * (d + 65536 * q) = 65536 ^ k * (c + A.getD k 0 + B.getD k 0) := by rw [hd]
  rw [Nat.mul_add, Nat.mul_add, Nat.mul_add, ← Nat.mul_assoc] at e
  rw [val_snoc, hk, tk, tk, Nat.pow_succ]
  omega
theorem getD_out (a : List Nat) (k : Nat) (h : a.length ≤ k) : a.getD k 0 = 0 := by
  rw [List.getD_eq_getElem?_getD, List.getElem?_eq_none h]; rfl
end Bg
namespace Go.Proofs.Ytdlipponajilbaa
open Go.RowKit
theorem info_int : (Try.prog.info? 3).map (fun i => (i.zero, i.size, i.bytes)) = some (some (.int .i64 0), 1, 8) := by kernel_rfl
def vals (O : List Nat) : List Value := O.map fun d => .int .i64 ((d : Nat) : Int)
theorem vals_snoc (O : List Nat) (d : Nat) : vals O ++ [.int .i64 (d : Int)] = vals (O ++ [d]) := by simp [vals]
theorem vals_len (O : List Nat) : (vals O).length = O.length := by simp [vals]
/-- nil without capacity, or in a block from a number on -/
def New (B : Nat) (o : Option Addr) (c : Nat) : Prop := (o = none → c = 0) ∧ ∀ ad, o = some ad → B ≤ ad.block
theorem own_rd {w : World} {base : Nat} {v : Value} {O : List Nat} (h : w.ownsRow base 3 1 v O.length (vals O)) : ∃ (o : Option Addr) (c : Nat), v = .slice o O.length c ∧ O.length ≤ c ∧ Rd w o O ∧ New base o c := by
  have h0 := h
  obtain ⟨hl, ⟨rfl, h2⟩ | ⟨g, cap, cur, rfl, hb, hg, hc, hm, hs, ht⟩⟩ := h
  · exact ⟨none, 0, by rw [h2], by omega, fun k hk => absurd hk (by omega), fun _ => rfl, fun ad x => by simp at x⟩
  · refine ⟨_, cap, rfl, hc, fun k hk => ⟨g, rfl, ?_, ?_⟩, fun x => by simp at x, fun ad x => by simp at x; subst x; exact hb⟩
    · exact (Array.getElem?_eq_some_iff.1 hg).1
    · rw [h0.cellAt k (by omega)]
      unfold vals
      rw [List.getElem?_map, List.getElem?_eq_getElem hk, Bg.getD_at _ _ hk]
      rfl
theorem cell_new (w : World) (d : Int) : ∀ j u, [Value.int .i64 d][j]? = some u → (w.alloc (.cells #[.int .i64 d] 3)).cell? ((⟨w.heap.size, 0, none⟩ : Addr).add j) = some u := by
  intro j u hj
  match j, hj with
  | 0, hj => simp at hj; subst hj; simp [Addr.add]
theorem one_new (d : Int) : ∀ u ∈ [Value.int .i64 d], u.oneCell' = true := by
  intro u hu; simp at hu; subst hu; rfl
theorem ret_slice {o : Option Addr} {n m c : Nat} (h : n = m) : Ending.returned (.slice o n c) = .returned (.slice o m c) := by rw [h]
theorem plus_fin (A B O : List Nat) (k : Nat) (cn dg cq x y : Int) (v : Value) (wr w : World) (h0 : 0 ≤ cn) (hx0 : 0 ≤ x) (hy0 : 0 ≤ y) (hd : dg = (cn + x + y) % 65536) (hq : cq = (cn + x + y) / 65536) (hx : x = ((A.getD k 0 : Nat) : Int)) (hy : y = ((B.getD k 0 : Nat) : Int))
    (hH : wr.ownsRow w.heap.size 3 1 v k (vals O) ∧ O.length = k ∧ Bg.dok O ∧ Bg.val O + 65536 ^ k * cn.toNat = Bg.val (A.take k) + Bg.val (B.take k) ∧ Below w.heap.size w wr)
    (v' : Value) (w1 : World) (hown : w1.ownsRow w.heap.size 3 1 v' (k + 1) (vals O ++ [.int .i64 dg])) (hg : (wr.alloc (.cells #[.int .i64 dg] 3)).grownBy w1 v.ownBlock) :
    w1.ownsRow w.heap.size 3 1 v' (k + 1) (vals (O ++ [dg.toNat])) ∧ (O ++ [dg.toNat]).length = k + 1 ∧ Bg.dok (O ++ [dg.toNat]) ∧ Bg.val (O ++ [dg.toNat]) + 65536 ^ (k + 1) * cq.toNat = Bg.val (A.take (k + 1)) + Bg.val (B.take (k + 1)) ∧ Below w.heap.size w w1 := by
  have e : dg = ((dg.toNat : Nat) : Int) := by omega
  refine ⟨?_, by simp [hH.2.1], Bg.dok_snoc hH.2.2.1 (by omega), ?_, ?_⟩
  · rw [← vals_snoc, ← e]; exact hown
  · exact Bg.plus_step A B O k cn.toNat dg.toNat cq.toNat hH.2.1 (by omega) hH.2.2.2.1
  · refine (hH.2.2.2.2.alloc hH.2.2.2.2.size _).grown hg (by have := hH.2.2.2.2.size; simp; omega) ?_
    intro j hj
    exact (hH.1.lt j hj).1
set_option maxHeartbeats 2000000 in
theorem plus_any (ao bo : Option Addr) (A B : List Nat) (ca cb : Nat) (w : World) (hA : (A.length : Int) ≤ 100000) (hB : (B.length : Int) ≤ 100000) (ra : Rd w ao A) (rb : Rd w bo B) (da : Bg.dok A) (db : Bg.dok B) :
    Calls Try.prog 72 #[.slice ao A.length ca, .slice bo B.length cb] w fun e w' => ∃ (o : Option Addr) (ds : List Nat) (c : Nat), e = .returned (.slice o ds.length c) ∧ ds.length ≤ c ∧ Rd w' o ds ∧ Bg.can ds ∧ Bg.val ds = Bg.val A + Bg.val B ∧ New w.heap.size o c ∧ Below w.heap.size w w' := by
  have ra' : Hid (Rd w ao A) := ra
  have rb' : Hid (Rd w bo B) := rb
  have da' : Hid (Bg.dok A) := da
  have db' : Hid (Bg.dok B) := db
  obtain ⟨i0, hi, hz0, hz1, hz2⟩ := info_parts info_int
  obtain ⟨M, hM⟩ : ∃ M : Nat, M = max A.length B.length := ⟨_, rfl⟩
  have hMa : (A.length : Int) ≤ M := by omega
  have hMb : (B.length : Int) ≤ M := by omega
  have hM1 : (M : Int) ≤ 100000 := by omega
  have hM' : Hid (M = max A.length B.length) := hM
  clear ra rb da db hM
  go_enter Try.func72, Try.ntmps72
  go_wp2
  go_loopw [5, 6, 7] (fun v c i wr => ∃ (k : Nat) (cn : Int) (O : List Nat), i = .int .i64 (k : Int) ∧ c = .int .i64 cn ∧ 0 ≤ cn ∧ cn ≤ 1 ∧ (k : Int) ≤ M + 1 ∧ ((k : Int) ≤ M ∨ cn = 0) ∧ Hid (wr.ownsRow w.heap.size 3 1 v k (vals O) ∧ O.length = k ∧ Bg.dok O ∧ Bg.val O + 65536 ^ k * cn.toNat = Bg.val (A.take k) + Bg.val (B.take k) ∧ Below w.heap.size w wr)) (fun _ _ i _ => M + 2 - (intOf i).toNat)
  case atStart =>
    refine ⟨0, 0, [], rfl, rfl, by omega, by omega, by omega, by omega, ?_, rfl, Bg.dok_nil, by simp [Bg.val], (Below.refl _ _).alloc (Nat.le_refl _) _⟩
    exact World.ownsRow_lit w #[] 0 (Nat.le_refl _) (by decide) rfl
  case round =>
    obtain ⟨k, cn, O, rfl, rfl, hc0, hc1, hk, hor, hH⟩ := hrel
    by_cases h1 : (k : Int) < A.length
    · by_cases h2 : (k : Int) < B.length
      · obtain ⟨b, x, g1, g2, g3, hx, x0, x1⟩ := (ra'.out.below hH.out.2.2.2.2 (Nat.le_refl _)).at da'.out k (by omega)
        have hix : ∀ w, Sem.run Try.prog (Instr.indexAt 67 (.slice ao A.length ca) (.int .i64 (k : Int))) w = .ok (.pointer (some ⟨b, k, none⟩)) w := idx_run A.length ca k k g1.out rfl (by omega)
        obtain ⟨c, y, f1, f2, f3, hy, y0, y1⟩ := (rb'.out.below hH.out.2.2.2.2 (Nat.le_refl _)).at db'.out k (by omega)
        have hiy : ∀ w, Sem.run Try.prog (Instr.indexAt 67 (.slice bo B.length cb) (.int .i64 (k : Int))) w = .ok (.pointer (some ⟨c, k, none⟩)) w := idx_run B.length cb k k f1.out rfl (by omega)
        obtain ⟨dg, hdg⟩ : ∃ dg : Int, dg = (cn + x + y) % 65536 := ⟨_, rfl⟩
        obtain ⟨cq, hcq⟩ : ∃ cq : Int, cq = (cn + x + y) / 65536 := ⟨_, rfl⟩
        have ed : (cn + x + y) % 65536 = dg := hdg.symm
        have eq : (cn + x + y) / 65536 = cq := hcq.symm
        have fin := plus_fin A B O k cn dg cq x y u5 wr w hc0 (by omega) (by omega) (by omega) (by omega) hx.out hy.out hH.out
        have dg0 : 0 ≤ dg := by omega
        have dg1 : dg ≤ 65535 := by omega
        have cq0 : 0 ≤ cq := by omega
        have cq1 : cq ≤ 1 := by omega
        have hown := hH.out.1
        have hsz : w.heap.size ≤ wr.heap.size := hH.out.2.2.2.2.size
        have FIN : Hid _ := fin
        have OWN : Hid (wr.ownsRow w.heap.size 3 1 u5 k (vals O)) := hown
        have DQ : Hid (dg = (cn + x + y) % 65536 ∧ cq = (cn + x + y) / 65536) := ⟨hdg, hcq⟩
        clear fin hdg hcq hown
        go_wp2_with (at_builtin; refine wpList_append_own _ rfl _ _ 67 rfl w.heap.size 3 i0 (.int .i64 0) 1 8 Try.underlying67 hi hz0 hz1 hz2 rfl (by decide) _ _ _ rfl (OWN.out.alloc _) ⟨wr.heap.size, 0, none⟩ 1 1 [.int .i64 dg] rfl rfl (cell_new wr dg) (one_new dg) (by unfold maxLen; omega) (by omega) (by simp; omega) ?_)
        intro v' w1 hown' hgrow _
        have R := FIN.out v' w1 hown' hgrow
        clear hown' hgrow
        have RR : Hid _ := R
        clear R
        go_wp2
        go_roundw
        case rel => exact ⟨k + 1, cq, O ++ [dg.toNat], by go_num, congrArg (Value.int .i64) eq, cq0, cq1, by omega, by have := DQ.out; omega, RR.out⟩
        case measure => simp [intOf]; omega
      · obtain ⟨b, x, g1, g2, g3, hx, x0, x1⟩ := (ra'.out.below hH.out.2.2.2.2 (Nat.le_refl _)).at da'.out k (by omega)
        have hix : ∀ w, Sem.run Try.prog (Instr.indexAt 67 (.slice ao A.length ca) (.int .i64 (k : Int))) w = .ok (.pointer (some ⟨b, k, none⟩)) w := idx_run A.length ca k k g1.out rfl (by omega)
        obtain ⟨dg, hdg⟩ : ∃ dg : Int, dg = (cn + x) % 65536 := ⟨_, rfl⟩
        obtain ⟨cq, hcq⟩ : ∃ cq : Int, cq = (cn + x) / 65536 := ⟨_, rfl⟩
        have ed : (cn + x) % 65536 = dg := hdg.symm
        have eq : (cn + x) / 65536 = cq := hcq.symm
        have fin := plus_fin A B O k cn dg cq x 0 u5 wr w hc0 (by omega) (by omega) (by omega) (by omega) hx.out (by rw [Bg.getD_out B k (by omega)]; rfl) hH.out
        have dg0 : 0 ≤ dg := by omega
        have dg1 : dg ≤ 65535 := by omega
        have cq0 : 0 ≤ cq := by omega
        have cq1 : cq ≤ 1 := by omega
        have hown := hH.out.1
        have hsz : w.heap.size ≤ wr.heap.size := hH.out.2.2.2.2.size
        have FIN : Hid _ := fin
        have OWN : Hid (wr.ownsRow w.heap.size 3 1 u5 k (vals O)) := hown
        have DQ : Hid (dg = (cn + x) % 65536 ∧ cq = (cn + x) / 65536) := ⟨hdg, hcq⟩
        clear fin hdg hcq hown
        go_wp2_with (at_builtin; refine wpList_append_own _ rfl _ _ 67 rfl w.heap.size 3 i0 (.int .i64 0) 1 8 Try.underlying67 hi hz0 hz1 hz2 rfl (by decide) _ _ _ rfl (OWN.out.alloc _) ⟨wr.heap.size, 0, none⟩ 1 1 [.int .i64 dg] rfl rfl (cell_new wr dg) (one_new dg) (by unfold maxLen; omega) (by omega) (by simp; omega) ?_)
        intro v' w1 hown' hgrow _
        have R := FIN.out v' w1 hown' hgrow
        clear hown' hgrow
        have RR : Hid _ := R
        clear R
        go_wp2
        go_roundw
        case rel => exact ⟨k + 1, cq, O ++ [dg.toNat], by go_num, congrArg (Value.int .i64) eq, cq0, cq1, by omega, by have := DQ.out; omega, RR.out⟩
        case measure => simp [intOf]; omega
    · by_cases h2 : (k : Int) < B.length
      · obtain ⟨c, y, f1, f2, f3, hy, y0, y1⟩ := (rb'.out.below hH.out.2.2.2.2 (Nat.le_refl _)).at db'.out k (by omega)
        have hiy : ∀ w, Sem.run Try.prog (Instr.indexAt 67 (.slice bo B.length cb) (.int .i64 (k : Int))) w = .ok (.pointer (some ⟨c, k, none⟩)) w := idx_run B.length cb k k f1.out rfl (by omega)
        obtain ⟨dg, hdg⟩ : ∃ dg : Int, dg = (cn + y) % 65536 := ⟨_, rfl⟩
        obtain ⟨cq, hcq⟩ : ∃ cq : Int, cq = (cn + y) / 65536 := ⟨_, rfl⟩
        have ed : (cn + y) % 65536 = dg := hdg.symm
        have eq : (cn + y) / 65536 = cq := hcq.symm
        have fin := plus_fin A B O k cn dg cq 0 y u5 wr w hc0 (by omega) (by omega) (by omega) (by omega) (by rw [Bg.getD_out A k (by omega)]; rfl) hy.out hH.out
        have dg0 : 0 ≤ dg := by omega
        have dg1 : dg ≤ 65535 := by omega
        have cq0 : 0 ≤ cq := by omega
        have cq1 : cq ≤ 1 := by omega
        have hown := hH.out.1
        have hsz : w.heap.size ≤ wr.heap.size := hH.out.2.2.2.2.size
        have FIN : Hid _ := fin
        have OWN : Hid (wr.ownsRow w.heap.size 3 1 u5 k (vals O)) := hown
        have DQ : Hid (dg = (cn + y) % 65536 ∧ cq = (cn + y) / 65536) := ⟨hdg, hcq⟩
        clear fin hdg hcq hown
        go_wp2_with (at_builtin; refine wpList_append_own _ rfl _ _ 67 rfl w.heap.size 3 i0 (.int .i64 0) 1 8 Try.underlying67 hi hz0 hz1 hz2 rfl (by decide) _ _ _ rfl (OWN.out.alloc _) ⟨wr.heap.size, 0, none⟩ 1 1 [.int .i64 dg] rfl rfl (cell_new wr dg) (one_new dg) (by unfold maxLen; omega) (by omega) (by simp; omega) ?_)
        intro v' w1 hown' hgrow _
        have R := FIN.out v' w1 hown' hgrow
        clear hown' hgrow
        have RR : Hid _ := R
        clear R
        go_wp2
        go_roundw
        case rel => exact ⟨k + 1, cq, O ++ [dg.toNat], by go_num, congrArg (Value.int .i64) eq, cq0, cq1, by omega, by have := DQ.out; omega, RR.out⟩
        case measure => simp [intOf]; omega
      · by_cases h3 : 0 < cn
        · obtain ⟨dg, hdg⟩ : ∃ dg : Int, dg = (cn) % 65536 := ⟨_, rfl⟩
          obtain ⟨cq, hcq⟩ : ∃ cq : Int, cq = (cn) / 65536 := ⟨_, rfl⟩
          have ed : (cn) % 65536 = dg := hdg.symm
          have eq : (cn) / 65536 = cq := hcq.symm
          have fin := plus_fin A B O k cn dg cq 0 0 u5 wr w hc0 (by omega) (by omega) (by omega) (by omega) (by rw [Bg.getD_out A k (by omega)]; rfl) (by rw [Bg.getD_out B k (by omega)]; rfl) hH.out
          have dg0 : 0 ≤ dg := by omega
          have dg1 : dg ≤ 65535 := by omega
          have cq0 : 0 ≤ cq := by omega
          have cq1 : cq ≤ 1 := by omega
          have hown := hH.out.1
          have hsz : w.heap.size ≤ wr.heap.size := hH.out.2.2.2.2.size
          have FIN : Hid _ := fin
          have OWN : Hid (wr.ownsRow w.heap.size 3 1 u5 k (vals O)) := hown
          have DQ : Hid (dg = (cn) % 65536 ∧ cq = (cn) / 65536) := ⟨hdg, hcq⟩
          clear fin hdg hcq hown
          go_wp2_with (at_builtin; refine wpList_append_own _ rfl _ _ 67 rfl w.heap.size 3 i0 (.int .i64 0) 1 8 Try.underlying67 hi hz0 hz1 hz2 rfl (by decide) _ _ _ rfl (OWN.out.alloc _) ⟨wr.heap.size, 0, none⟩ 1 1 [.int .i64 dg] rfl rfl (cell_new wr dg) (one_new dg) (by unfold maxLen; omega) (by omega) (by simp; omega) ?_)
          intro v' w1 hown' hgrow _
          have R := FIN.out v' w1 hown' hgrow
          clear hown' hgrow
          have RR : Hid _ := R
          clear R
          go_wp2
          go_roundw
          case rel => exact ⟨k + 1, cq, O ++ [dg.toNat], by go_num, congrArg (Value.int .i64) eq, cq0, cq1, by omega, by have := DQ.out; omega, RR.out⟩
          case measure => simp [intOf]; omega
        · obtain ⟨o, cc, rfl, o1, o2, o3⟩ := own_rd (by rw [hH.out.2.1]; exact hH.out.1 : wr.ownsRow w.heap.size 3 1 u5 O.length (vals O))
          have hk' : Hid (O.length = k) := hH.out.2.1
          go_wp2_with fail
          refine (trim_any o O cc _ (by have := hk'.out; omega) (by omega) o2 hH.out.2.2.1).mono ?_
          rintro e w2 ⟨m, rfl, t1, t2, t3, rfl⟩
          have TT : Hid (m ≤ O.length ∧ Bg.can (O.take m) ∧ Bg.val (O.take m) = Bg.val O) := ⟨t1, t2, t3⟩
          have RD : Hid (Rd w2 o O ∧ O.length ≤ cc) := ⟨o2, o1⟩
          have NN : Hid (New w.heap.size o cc) := o3
          clear t1 t2 t3 o1 o2 o3
          go_wp2
          go_ret
          obtain ⟨t1, t2, t3⟩ := TT.out
          have hl : (O.take m).length = m := by rw [List.length_take]; omega
          refine ⟨o, O.take m, cc, ret_slice hl.symm, by rw [hl]; have := RD.out.2; omega, RD.out.1.take m, t2, ?_, NN.out, hH.out.2.2.2.2⟩
          have hs := hH.out.2.2.2.1
          rw [show cn.toNat = 0 from by omega, Nat.mul_zero, Bg.val_take_all A k (by omega), Bg.val_take_all B k (by omega)] at hs
          omega
end Go.Proofs.Ytdlipponajilbaa
/- What minus of the reference's whole numbers returns: the digits of the difference, where the second number is no greater. -/
namespace Bg
theorem minus_step (A B O : List Nat) (k c d q : Nat) (hk : O.length = k) (hd : d + c + B.getD k 0 = A.getD k 0 + 65536 * q) (h : val O + val (B.take k) = val (A.take k) + 65536 ^ k * c) :
    val (O ++ [d]) + val (B.take (k + 1)) = val (A.take (k + 1)) + 65536 ^ (k + 1) * q := by
  have e : 65536 ^ k * (d + c + B.getD k 0) = 65536 ^ k * (A.getD k 0 + 65536 * q) := by rw [hd]
  rw [Nat.mul_add, Nat.mul_add, Nat.mul_add, ← Nat.mul_assoc] at e
  rw [val_snoc, hk, tk, tk, Nat.pow_succ]
  omega
theorem minus_end (A B O : List Nat) (c : Nat) (ho : dok O) (hl : O.length = A.length) (hb : B.length ≤ A.length) (hv : val B ≤ val A) (h : val O + val (B.take A.length) = val (A.take A.length) + 65536 ^ A.length * c) : val O = val A - val B := by
  rw [val_take_all B _ hb, List.take_length] at h
  have h1 := val_lt O ho
  rw [hl] at h1
  rcases c with _ | c
  · omega
  · have h2 := Nat.mul_le_mul_left (65536 ^ A.length) (show 1 ≤ c + 1 by omega)
    omega
end Bg
namespace Go.Proofs.Ytdlipponajilbaa
open Go.RowKit
theorem minus_fin (A B O : List Nat) (k : Nat) (cn dg cq x y : Int) (v : Value) (wr w : World) (h0 : 0 ≤ cn) (hq0 : 0 ≤ cq) (hd0 : 0 ≤ dg) (hd1 : dg ≤ 65535) (hd : dg + cn + y = x + 65536 * cq) (hx : x = ((A.getD k 0 : Nat) : Int)) (hy : y = ((B.getD k 0 : Nat) : Int))
    (hH : wr.ownsRow w.heap.size 3 1 v k (vals O) ∧ O.length = k ∧ Bg.dok O ∧ Bg.val O + Bg.val (B.take k) = Bg.val (A.take k) + 65536 ^ k * cn.toNat ∧ Below w.heap.size w wr)
    (v' : Value) (w1 : World) (hown : w1.ownsRow w.heap.size 3 1 v' (k + 1) (vals O ++ [.int .i64 dg])) (hg : (wr.alloc (.cells #[.int .i64 dg] 3)).grownBy w1 v.ownBlock) :
    w1.ownsRow w.heap.size 3 1 v' (k + 1) (vals (O ++ [dg.toNat])) ∧ (O ++ [dg.toNat]).length = k + 1 ∧ Bg.dok (O ++ [dg.toNat]) ∧ Bg.val (O ++ [dg.toNat]) + Bg.val (B.take (k + 1)) = Bg.val (A.take (k + 1)) + 65536 ^ (k + 1) * cq.toNat ∧ Below w.heap.size w w1 := by
  have e : dg = ((dg.toNat : Nat) : Int) := by omega
  refine ⟨?_, by simp [hH.2.1], Bg.dok_snoc hH.2.2.1 (by omega), ?_, ?_⟩
  · rw [← vals_snoc, ← e]; exact hown
  · exact Bg.minus_step A B O k cn.toNat dg.toNat cq.toNat hH.2.1 (by omega) hH.2.2.2.1
  · refine (hH.2.2.2.2.alloc hH.2.2.2.2.size _).grown hg (by have := hH.2.2.2.2.size; simp; omega) ?_
    intro j hj
    exact (hH.1.lt j hj).1
set_option maxRecDepth 20000 in
set_option maxHeartbeats 2000000 in
theorem minus_any (ao bo : Option Addr) (A B : List Nat) (ca cb : Nat) (w : World) (hA : (A.length : Int) ≤ 100000) (hBA : (B.length : Int) ≤ A.length) (ra : Rd w ao A) (rb : Rd w bo B) (da : Bg.dok A) (db : Bg.dok B) (hv : Bg.val B ≤ Bg.val A) :
    Calls Try.prog 74 #[.slice ao A.length ca, .slice bo B.length cb] w fun e w' => ∃ (o : Option Addr) (ds : List Nat) (c : Nat), e = .returned (.slice o ds.length c) ∧ ds.length ≤ c ∧ Rd w' o ds ∧ Bg.can ds ∧ Bg.val ds = Bg.val A - Bg.val B ∧ New w.heap.size o c ∧ Below w.heap.size w w' := by
  have ra' : Hid (Rd w ao A) := ra
  have rb' : Hid (Rd w bo B) := rb
  have da' : Hid (Bg.dok A) := da
  have db' : Hid (Bg.dok B) := db
  have hv' : Hid (Bg.val B ≤ Bg.val A) := hv
  obtain ⟨i0, hi, hz0, hz1, hz2⟩ := info_parts info_int
  clear ra rb da db hv
  go_enter Try.func74, Try.ntmps74
  go_wp2
  go_loopw [5, 6, 7] (fun v c i wr => ∃ (k : Nat) (cn : Int) (O : List Nat), i = .int .i64 (k : Int) ∧ c = .int .i64 cn ∧ 0 ≤ cn ∧ cn ≤ 1 ∧ (k : Int) ≤ A.length ∧ Hid (wr.ownsRow w.heap.size 3 1 v k (vals O) ∧ O.length = k ∧ Bg.dok O ∧ Bg.val O + Bg.val (B.take k) = Bg.val (A.take k) + 65536 ^ k * cn.toNat ∧ Below w.heap.size w wr)) (fun _ _ i _ => A.length - (intOf i).toNat)
  case atStart =>
    refine ⟨0, 0, [], rfl, rfl, by omega, by omega, by omega, ?_, rfl, Bg.dok_nil, by simp [Bg.val], (Below.refl _ _).alloc (Nat.le_refl _) _⟩
    exact World.ownsRow_lit w #[] 0 (Nat.le_refl _) (by decide) rfl
  case round =>
    obtain ⟨k, cn, O, rfl, rfl, hc0, hc1, hk, hH⟩ := hrel
    by_cases h1 : (k : Int) < A.length
    · obtain ⟨b, x, g1, g2, g3, hx, x0, x1⟩ := (ra'.out.below hH.out.2.2.2.2 (Nat.le_refl _)).at da'.out k (by omega)
      have hix : ∀ w, Sem.run Try.prog (Instr.indexAt 67 (.slice ao A.length ca) (.int .i64 (k : Int))) w = .ok (.pointer (some ⟨b, k, none⟩)) w := idx_run A.length ca k k g1.out rfl (by omega)
      by_cases h2 : (k : Int) < B.length
      · obtain ⟨c, y, f1, f2, f3, hy, y0, y1⟩ := (rb'.out.below hH.out.2.2.2.2 (Nat.le_refl _)).at db'.out k (by omega)
        have hiy : ∀ w, Sem.run Try.prog (Instr.indexAt 67 (.slice bo B.length cb) (.int .i64 (k : Int))) w = .ok (.pointer (some ⟨c, k, none⟩)) w := idx_run B.length cb k k f1.out rfl (by omega)
        by_cases h3 : x - cn - y < 0
        · obtain ⟨dg, hdg⟩ : ∃ dg : Int, dg = x - cn - y + 65536 := ⟨_, rfl⟩
          have ed : x - cn - y + 65536 = dg := hdg.symm
          have FIN : Hid _ := minus_fin A B O k cn dg 1 x y u5 wr w hc0 (by decide) (by omega) (by omega) (by omega) hx.out hy.out hH.out
          have dg0 : 0 ≤ dg := by omega
          have dg1 : dg ≤ 65535 := by omega
          have hsz : w.heap.size ≤ wr.heap.size := hH.out.2.2.2.2.size
          have OWN : Hid (wr.ownsRow w.heap.size 3 1 u5 k (vals O)) := hH.out.1
          clear hdg
          go_wp2_with (at_builtin; refine wpList_append_own _ rfl _ _ 67 rfl w.heap.size 3 i0 (.int .i64 0) 1 8 Try.underlying67 hi hz0 hz1 hz2 rfl (by decide) _ _ _ rfl (OWN.out.alloc _) ⟨wr.heap.size, 0, none⟩ 1 1 [.int .i64 dg] rfl rfl (cell_new wr dg) (one_new dg) (by unfold maxLen; omega) (by omega) (by simp; omega) ?_)
          intro v' w1 hown' hgrow _
          have RR : Hid _ := FIN.out v' w1 hown' hgrow
          clear hown' hgrow
          go_wp2
          go_roundw
          case rel => exact ⟨k + 1, 1, O ++ [dg.toNat], by go_num, rfl, by decide, by decide, by omega, RR.out⟩
          case measure => simp [intOf]; omega
        · obtain ⟨dg, hdg⟩ : ∃ dg : Int, dg = x - cn - y := ⟨_, rfl⟩
          have ed : x - cn - y = dg := hdg.symm
          have FIN : Hid _ := minus_fin A B O k cn dg 0 x y u5 wr w hc0 (by decide) (by omega) (by omega) (by omega) hx.out hy.out hH.out
          have dg0 : 0 ≤ dg := by omega
          have dg1 : dg ≤ 65535 := by omega
          have hsz : w.heap.size ≤ wr.heap.size := hH.out.2.2.2.2.size
          have OWN : Hid (wr.ownsRow w.heap.size 3 1 u5 k (vals O)) := hH.out.1
          clear hdg
          go_wp2_with (at_builtin; refine wpList_append_own _ rfl _ _ 67 rfl w.heap.size 3 i0 (.int .i64 0) 1 8 Try.underlying67 hi hz0 hz1 hz2 rfl (by decide) _ _ _ rfl (OWN.out.alloc _) ⟨wr.heap.size, 0, none⟩ 1 1 [.int .i64 dg] rfl rfl (cell_new wr dg) (one_new dg) (by unfold maxLen; omega) (by omega) (by simp; omega) ?_)
          intro v' w1 hown' hgrow _
          have RR : Hid _ := FIN.out v' w1 hown' hgrow
          clear hown' hgrow
          go_wp2
          go_roundw
          case rel => exact ⟨k + 1, 0, O ++ [dg.toNat], by go_num, rfl, by decide, by decide, by omega, RR.out⟩
          case measure => simp [intOf]; omega
      · by_cases h3 : x - cn < 0
        · obtain ⟨dg, hdg⟩ : ∃ dg : Int, dg = x - cn + 65536 := ⟨_, rfl⟩
          have ed : x - cn + 65536 = dg := hdg.symm
          have FIN : Hid _ := minus_fin A B O k cn dg 1 x 0 u5 wr w hc0 (by decide) (by omega) (by omega) (by omega) hx.out (by rw [Bg.getD_out B k (by omega)]; rfl) hH.out
          have dg0 : 0 ≤ dg := by omega
          have dg1 : dg ≤ 65535 := by omega
          have hsz : w.heap.size ≤ wr.heap.size := hH.out.2.2.2.2.size
          have OWN : Hid (wr.ownsRow w.heap.size 3 1 u5 k (vals O)) := hH.out.1
          clear hdg
          go_wp2_with (at_builtin; refine wpList_append_own _ rfl _ _ 67 rfl w.heap.size 3 i0 (.int .i64 0) 1 8 Try.underlying67 hi hz0 hz1 hz2 rfl (by decide) _ _ _ rfl (OWN.out.alloc _) ⟨wr.heap.size, 0, none⟩ 1 1 [.int .i64 dg] rfl rfl (cell_new wr dg) (one_new dg) (by unfold maxLen; omega) (by omega) (by simp; omega) ?_)
          intro v' w1 hown' hgrow _
          have RR : Hid _ := FIN.out v' w1 hown' hgrow
          clear hown' hgrow
          go_wp2
          go_roundw
          case rel => exact ⟨k + 1, 1, O ++ [dg.toNat], by go_num, rfl, by decide, by decide, by omega, RR.out⟩
          case measure => simp [intOf]; omega
        · obtain ⟨dg, hdg⟩ : ∃ dg : Int, dg = x - cn := ⟨_, rfl⟩
          have ed : x - cn = dg := hdg.symm
          have FIN : Hid _ := minus_fin A B O k cn dg 0 x 0 u5 wr w hc0 (by decide) (by omega) (by omega) (by omega) hx.out (by rw [Bg.getD_out B k (by omega)]; rfl) hH.out
          have dg0 : 0 ≤ dg := by omega
          have dg1 : dg ≤ 65535 := by omega
          have hsz : w.heap.size ≤ wr.heap.size := hH.out.2.2.2.2.size
          have OWN : Hid (wr.ownsRow w.heap.size 3 1 u5 k (vals O)) := hH.out.1
          clear hdg
          go_wp2_with (at_builtin; refine wpList_append_own _ rfl _ _ 67 rfl w.heap.size 3 i0 (.int .i64 0) 1 8 Try.underlying67 hi hz0 hz1 hz2 rfl (by decide) _ _ _ rfl (OWN.out.alloc _) ⟨wr.heap.size, 0, none⟩ 1 1 [.int .i64 dg] rfl rfl (cell_new wr dg) (one_new dg) (by unfold maxLen; omega) (by omega) (by simp; omega) ?_)
          intro v' w1 hown' hgrow _
          have RR : Hid _ := FIN.out v' w1 hown' hgrow
          clear hown' hgrow
          go_wp2
          go_roundw
          case rel => exact ⟨k + 1, 0, O ++ [dg.toNat], by go_num, rfl, by decide, by decide, by omega, RR.out⟩
          case measure => simp [intOf]; omega
    · obtain ⟨o, cc, rfl, o1, o2, o3⟩ := own_rd (by rw [hH.out.2.1]; exact hH.out.1 : wr.ownsRow w.heap.size 3 1 u5 O.length (vals O))
      have hk' : Hid (O.length = k) := hH.out.2.1
      have hkA : Hid (k = A.length) := by show _ = _; omega
      go_wp2_with fail
      refine (trim_any o O cc _ (by have := hk'.out; omega) (by omega) o2 hH.out.2.2.1).mono ?_
      rintro e w2 ⟨m, rfl, t1, t2, t3, rfl⟩
      have TT : Hid (m ≤ O.length ∧ Bg.can (O.take m) ∧ Bg.val (O.take m) = Bg.val O) := ⟨t1, t2, t3⟩
      have RD : Hid (Rd w2 o O ∧ O.length ≤ cc) := ⟨o2, o1⟩
      have NN : Hid (New w.heap.size o cc) := o3
      clear t1 t2 t3 o1 o2 o3
      go_wp2
      go_ret
      obtain ⟨t1, t2, t3⟩ := TT.out
      have hl : (O.take m).length = m := by rw [List.length_take]; omega
      refine ⟨o, O.take m, cc, ret_slice hl.symm, by rw [hl]; have := RD.out.2; omega, RD.out.1.take m, t2, ?_, NN.out, hH.out.2.2.2.2⟩
      have hs := hH.out.2.2.2.1
      have hke := hkA.out
      rw [t3]
      rw [hke] at hs
      exact Bg.minus_end A B O cn.toNat hH.out.2.2.1 (by have := hk'.out; omega) (by omega) hv'.out hs
end Go.Proofs.Ytdlipponajilbaa
/- What times of the reference's whole numbers returns: the digits of the product. -/
namespace Bg
theorem val_set (O : List Nat) (p d : Nat) (hp : p < O.length) : val (O.set p d) + 65536 ^ p * O.getD p 0 = val O + 65536 ^ p * d := by
  induction O generalizing p with
  | nil => simp at hp
  | cons x r ih =>
    rcases p with _ | p
    · simp [val]; omega
    · have := ih p (by simpa using hp)
      simp only [List.set_cons_succ, val, List.getD_cons_succ, Nat.pow_succ]
      have e : ∀ z, 65536 ^ p * 65536 * z = 65536 * (65536 ^ p * z) := fun z => by rw [Nat.mul_comm (65536 ^ p) 65536, Nat.mul_assoc]
      rw [e, e]
      omega
theorem dok_set {O : List Nat} (h : dok O) (p : Nat) {d : Nat} (hd : d < 65536) : dok (O.set p d) := by
  intro x hx
  rcases List.mem_or_eq_of_mem_set hx with h1 | h1
  · exact h x h1
  · omega
/-- a digit of a row of products -/
theorem times_step (A B O : List Nat) (i k p c d q : Nat) (hp : p = i + k) (hl : p < O.length) (hd : d + 65536 * q = O.getD p 0 + c + A.getD i 0 * B.getD k 0) (h : val O + 65536 ^ p * c = val (A.take i) * val B + 65536 ^ i * (A.getD i 0 * val (B.take k))) :
    val (O.set p d) + 65536 ^ (p + 1) * q = val (A.take i) * val B + 65536 ^ i * (A.getD i 0 * val (B.take (k + 1))) := by
  have hs := val_set O p d hl
  have e : 65536 ^ p * (d + 65536 * q) = 65536 ^ p * (O.getD p 0 + c + A.getD i 0 * B.getD k 0) := by rw [hd]
  rw [Nat.mul_add, Nat.mul_add, Nat.mul_add, ← Nat.mul_assoc] at e
  rw [tk, Nat.mul_add, Nat.mul_add]
  have f : 65536 ^ i * (A.getD i 0 * (65536 ^ k * B.getD k 0)) = 65536 ^ p * (A.getD i 0 * B.getD k 0) := by
    rw [hp, Nat.pow_add, Nat.mul_left_comm (A.getD i 0), Nat.mul_assoc]
  rw [f, Nat.pow_succ]
  omega
/-- where the row ends nothing is carried -/
theorem times_over (A B O : List Nat) (i k p c : Nat) (hB : dok B) (hA : dok A) (hi : i < A.length) (hp : p = i + k) (hk : B.length < k) (h : val O + 65536 ^ p * c = val (A.take i) * val B + 65536 ^ i * (A.getD i 0 * val (B.take k))) : c = 0 := by
  rw [val_take_all B k (by omega), ← Nat.mul_assoc, ← Nat.add_mul, ← tk] at h
  have h1 := val_lt (A.take (i + 1)) (dok_take hA _)
  rw [List.length_take, Nat.min_eq_left (by omega)] at h1
  have h2 := val_lt B hB
  have h3 : val (A.take (i + 1)) * val B < 65536 ^ (i + 1) * 65536 ^ B.length := Nat.mul_lt_mul'' h1 h2
  rw [← Nat.pow_add] at h3
  have h4 : 65536 ^ (i + 1 + B.length) ≤ 65536 ^ p := Nat.pow_le_pow_right (by decide) (by omega)
  rcases c with _ | c
  · rfl
  · have := Nat.mul_le_mul_left (65536 ^ p) (show 1 ≤ c + 1 by omega)
    omega
theorem times_row (A B O : List Nat) (i k : Nat) (hk : B.length ≤ k) (h : val O + 65536 ^ (i + k) * 0 = val (A.take i) * val B + 65536 ^ i * (A.getD i 0 * val (B.take k))) : val O = val (A.take (i + 1)) * val B := by
  rw [val_take_all B k hk] at h
  rw [tk, Nat.add_mul, Nat.mul_assoc]
  omega
theorem val_zeros (n : Nat) : val (List.replicate n 0) = 0 := by
  induction n with
  | zero => rfl
  | succ n ih => rw [List.replicate_succ, val, ih]
theorem dok_zeros (n : Nat) : dok (List.replicate n 0) := fun d hd => by
  have := (List.mem_replicate.1 hd).2
  omega
end Bg
namespace Go.Proofs.Ytdlipponajilbaa
open Go.RowKit
theorem vals_zeros (n : Nat) : (madeCells #[Value.int .i64 0] n).toList = vals (List.replicate n 0) := by
  rw [toList_madeCells_one]
  simp [vals]
theorem vals_set (O : List Nat) (p : Nat) (d : Nat) : (vals O).set p (.int .i64 (d : Int)) = vals (O.set p d) := by
  simp [vals, List.map_set]
/-- the digit at a place of a row that the call has made -/
theorem own_at {w : World} {base g n cap : Nat} {O : List Nat} (h : w.ownsRow base 3 1 (.slice (some ⟨g, 0, none⟩) n cap) n (vals O)) (hl : O.length = n) (hd : Bg.dok O) (p : Nat) (hp : p < n) :
    ∃ z : Int, w.cell? ⟨g, p, none⟩ = some (.int .i64 z) ∧ w.frozen? ⟨g, p, none⟩ = false ∧ Hid (z = ((O.getD p 0 : Nat) : Int)) ∧ 0 ≤ z ∧ z ≤ 65535 := by
  have h1 := h.cellAt p (by omega)
  unfold vals at h1
  rw [List.getElem?_map, List.getElem?_eq_getElem (by omega)] at h1
  have h2 := Bg.dok_getD hd p
  refine ⟨((O.getD p 0 : Nat) : Int), ?_, h.frozenAt p, rfl, Int.natCast_nonneg _, by omega⟩
  rw [h1, Bg.getD_at _ _ (by omega)]
  rfl
/-- behind a store into such a row -/
theorem own_store {w w0 : World} {n cap : Nat} {O : List Nat} (h : w.ownsRow w0.heap.size 3 1 (.slice (some ⟨w0.heap.size, 0, none⟩) n cap) n (vals O)) (hb : Below w0.heap.size w0 w) (p : Nat) (d : Nat) :
    (w.setCell ⟨w0.heap.size, p, none⟩ (.int .i64 (d : Int))).ownsRow w0.heap.size 3 1 (.slice (some ⟨w0.heap.size, 0, none⟩) n cap) n (vals (O.set p d)) ∧ Below w0.heap.size w0 (w.setCell ⟨w0.heap.size, p, none⟩ (.int .i64 (d : Int))) := by
  refine ⟨?_, hb.setCell (Nat.le_refl _) _⟩
  rw [← vals_set]
  exact (h.stored p _).1
set_option maxHeartbeats 4000000 in
theorem times_any (ao bo : Option Addr) (A B : List Nat) (ca cb : Nat) (w : World) (hA : (A.length : Int) ≤ 100000) (hB : (B.length : Int) ≤ 100000) (ra : Rd w ao A) (rb : Rd w bo B) (da : Bg.dok A) (db : Bg.dok B) :
    Calls Try.prog 76 #[.slice ao A.length ca, .slice bo B.length cb] w fun e w' => ∃ (o : Option Addr) (ds : List Nat) (c : Nat), e = .returned (.slice o ds.length c) ∧ ds.length ≤ c ∧ Rd w' o ds ∧ Bg.can ds ∧ Bg.val ds = Bg.val A * Bg.val B ∧ New w.heap.size o c ∧ Below w.heap.size w w' := by
  have ra' : Hid (Rd w ao A) := ra
  have rb' : Hid (Rd w bo B) := rb
  have da' : Hid (Bg.dok A) := da
  have db' : Hid (Bg.dok B) := db
  obtain ⟨i0, hi, hz0, hz1, hz2⟩ := info_parts info_int
  obtain ⟨n, hn⟩ : ∃ n : Nat, n = A.length + B.length + 1 := ⟨_, rfl⟩
  have hn1 : (A.length : Int) + B.length + 1 ≤ n := by omega
  have hn2 : (n : Int) ≤ (A.length : Int) + B.length + 1 := by omega
  have hn' : Hid (n = A.length + B.length + 1) := hn
  clear ra rb da db hn
  go_enter Try.func76, Try.ntmps76
  go_wp2_with (at_make; refine wpList_make_full _ rfl _ _ 67 rfl w.heap.size 3 i0 (.int .i64 0) 1 Try.underlying67 hi hz0 hz1 .i64 .i64 _ _ n rfl rfl (by omega) (by omega) (by rw [hz2]; omega) (by unfold maxLen; omega) (Nat.le_refl _) ?_)
  intro w1 hown hgrow
  have H0 : Hid (w1.ownsRow w.heap.size 3 1 (.slice (some ⟨w.heap.size, 0, none⟩) n n) n (vals (List.replicate n 0)) ∧ Below w.heap.size w w1) := ⟨by rw [← vals_zeros]; exact hown, (Below.refl _ _).grown hgrow (Nat.le_refl _) (by simp)⟩
  clear hown hgrow
  go_wp2
  go_loopw [6] (fun v wr => ∃ (i : Nat) (O : List Nat), v = .int .i64 (i : Int) ∧ (i : Int) ≤ A.length ∧ Hid (wr.ownsRow w.heap.size 3 1 (.slice (some ⟨w.heap.size, 0, none⟩) n n) n (vals O) ∧ O.length = n ∧ Bg.dok O ∧ Bg.val O = Bg.val (A.take i) * Bg.val B ∧ Below w.heap.size w wr)) (fun v _ => A.length - (intOf v).toNat)
  case atStart => exact ⟨0, List.replicate n 0, rfl, by omega, H0.out.1, by simp, Bg.dok_zeros n, by rw [Bg.val_zeros]; simp [Bg.val], H0.out.2⟩
  case round =>
    obtain ⟨i, O, rfl, hi1, hH⟩ := hrel
    by_cases h1 : (i : Int) < A.length
    · clear H0
      go_wp2
      go_loopw [7, 8] (fun c kk wv => ∃ (cn : Int) (k : Nat) (O2 : List Nat), c = .int .i64 cn ∧ kk = .int .i64 (k : Int) ∧ 0 ≤ cn ∧ cn ≤ 65535 ∧ (k : Int) ≤ (B.length : Int) + 1 ∧ Hid (wv.ownsRow w.heap.size 3 1 (.slice (some ⟨w.heap.size, 0, none⟩) n n) n (vals O2) ∧ O2.length = n ∧ Bg.dok O2 ∧ Bg.val O2 + 65536 ^ (i + k) * cn.toNat = Bg.val (A.take i) * Bg.val B + 65536 ^ i * (A.getD i 0 * Bg.val (B.take k)) ∧ Below w.heap.size w wv)) (fun _ kk _ => B.length + 2 - (intOf kk).toNat)
      case atStart => exact ⟨0, 0, O, rfl, rfl, by omega, by omega, by omega, hH.out.1, hH.out.2.1, hH.out.2.2.1, by rw [hH.out.2.2.2.1]; simp [Bg.val], hH.out.2.2.2.2⟩
      case round =>
        obtain ⟨cn, k, O2, rfl, rfl, hc0, hc1, hk, hH2⟩ := hrel
        clear hH
        by_cases h2 : (k : Int) < B.length
        · obtain ⟨b, x, g1, g2, g3, hx, x0, x1⟩ := (ra'.out.below hH2.out.2.2.2.2 (Nat.le_refl _)).at da'.out i (by omega)
          have hix : ∀ w, Sem.run Try.prog (Instr.indexAt 67 (.slice ao A.length ca) (.int .i64 (i : Int))) w = .ok (.pointer (some ⟨b, i, none⟩)) w := idx_run A.length ca i i g1.out rfl (by omega)
          obtain ⟨c, y, f1, f2, f3, hy, y0, y1⟩ := (rb'.out.below hH2.out.2.2.2.2 (Nat.le_refl _)).at db'.out k (by omega)
          have hiy : ∀ w, Sem.run Try.prog (Instr.indexAt 67 (.slice bo B.length cb) (.int .i64 (k : Int))) w = .ok (.pointer (some ⟨c, k, none⟩)) w := idx_run B.length cb k k f1.out rfl (by omega)
          obtain ⟨z, z1, z2, hzz, z3, z4⟩ := own_at hH2.out.1 hH2.out.2.1 hH2.out.2.2.1 (i + k) (by omega)
          have hiz : ∀ v, Sem.run Try.prog (Instr.indexAt 67 (.slice (some ⟨w.heap.size, 0, none⟩) n n) (.int .i64 ((i : Int) + (k : Int)))) v = .ok (.pointer (some ⟨w.heap.size, i + k, none⟩)) v := idx_run n n (i + k) _ rfl (by omega) (by omega)
          obtain ⟨p, hp⟩ : ∃ p : Int, p = x * y := ⟨_, rfl⟩
          have ep : x * y = p := hp.symm
          have p0 : 0 ≤ p := by rw [hp]; exact Int.mul_nonneg x0 y0
          have p1 : p ≤ 4294836225 := by rw [hp]; have := Int.mul_le_mul x1 y1 y0 (by omega : (0 : Int) ≤ 65535); omega
          have hp' : Hid (p = ((A.getD i 0 * B.getD k 0 : Nat) : Int)) := by show _ = _; rw [hp, hx.out, hy.out, Int.natCast_mul]
          clear hp
          obtain ⟨dg, hdg⟩ : ∃ dg : Int, dg = (z + cn + p) % 65536 := ⟨_, rfl⟩
          obtain ⟨cq, hcq⟩ : ∃ cq : Int, cq = (z + cn + p) / 65536 := ⟨_, rfl⟩
          have ed : (z + cn + p) % 65536 = dg := hdg.symm
          have eq : (z + cn + p) / 65536 = cq := hcq.symm
          have dg0 : 0 ≤ dg := by omega
          have dg1 : dg ≤ 65535 := by omega
          have cq0 : 0 ≤ cq := by omega
          have cq1 : cq ≤ 65535 := by omega
          have STEP : Hid (Bg.val (O2.set (i + k) dg.toNat) + 65536 ^ (i + (k + 1)) * cq.toNat = Bg.val (A.take i) * Bg.val B + 65536 ^ i * (A.getD i 0 * Bg.val (B.take (k + 1)))) := by
            refine Bg.times_step A B O2 i k (i + k) cn.toNat dg.toNat cq.toNat rfl (by rw [hH2.out.2.1]; omega) ?_ hH2.out.2.2.2.1
            have hz := hzz.out
            have hpp := hp'.out; omega
          have hdN : dg = ((dg.toNat : Nat) : Int) := by omega
          obtain ⟨dn, hdn⟩ : ∃ dn : Nat, dn = dg.toNat := ⟨_, rfl⟩
          have hdd : Hid (dg = (dn : Int) ∧ dn = dg.toNat) := ⟨by omega, hdn⟩
          have OS : Hid _ := own_store (O := O2) hH2.out.1 hH2.out.2.2.2.2 (i + k) dn
          clear hdg hcq hdN hdn
          go_wp2
          go_quiet (fail)
          go_wp2
          go_roundw
          case rel =>
            have h1 := OS.out.1
            have h2 := OS.out.2
            rw [← hdd.out.1] at h1 h2
            refine ⟨cq, k + 1, O2.set (i + k) dn, congrArg (Value.int .i64) eq, by go_num, cq0, cq1, by omega, ?_, by rw [List.length_set]; exact hH2.out.2.1, Bg.dok_set hH2.out.2.2.1 _ (by have := hdd.out; omega), by have := STEP.out; rw [← hdd.out.2] at this; exact this, ?_⟩
            · exact h1
            · exact below_drewN h2 _
          case measure => simp [intOf]; omega
        · by_cases h3 : 0 < cn
          · have hkB : (k : Int) ≤ B.length := by
              refine Int.not_lt.1 fun hlt => ?_
              have := Bg.times_over A B O2 i k (i + k) cn.toNat db'.out da'.out (by omega) rfl (by omega) hH2.out.2.2.2.1
              omega
            obtain ⟨z, z1, z2, hzz, z3, z4⟩ := own_at hH2.out.1 hH2.out.2.1 hH2.out.2.2.1 (i + k) (by omega)
            have hiz : ∀ v, Sem.run Try.prog (Instr.indexAt 67 (.slice (some ⟨w.heap.size, 0, none⟩) n n) (.int .i64 ((i : Int) + (k : Int)))) v = .ok (.pointer (some ⟨w.heap.size, i + k, none⟩)) v := idx_run n n (i + k) _ rfl (by omega) (by omega)
            obtain ⟨dg, hdg⟩ : ∃ dg : Int, dg = (z + cn) % 65536 := ⟨_, rfl⟩
            obtain ⟨cq, hcq⟩ : ∃ cq : Int, cq = (z + cn) / 65536 := ⟨_, rfl⟩
            have ed : (z + cn) % 65536 = dg := hdg.symm
            have eq : (z + cn) / 65536 = cq := hcq.symm
            have dg0 : 0 ≤ dg := by omega
            have dg1 : dg ≤ 65535 := by omega
            have cq0 : 0 ≤ cq := by omega
            have cq1 : cq ≤ 65535 := by omega
            have STEP : Hid (Bg.val (O2.set (i + k) dg.toNat) + 65536 ^ (i + (k + 1)) * cq.toNat = Bg.val (A.take i) * Bg.val B + 65536 ^ i * (A.getD i 0 * Bg.val (B.take (k + 1)))) := by
              refine Bg.times_step A B O2 i k (i + k) cn.toNat dg.toNat cq.toNat rfl (by rw [hH2.out.2.1]; omega) ?_ hH2.out.2.2.2.1
              have hz := hzz.out
              rw [Bg.getD_out B k (by omega), Nat.mul_zero]; omega
            have hdN : dg = ((dg.toNat : Nat) : Int) := by omega
            obtain ⟨dn, hdn⟩ : ∃ dn : Nat, dn = dg.toNat := ⟨_, rfl⟩
            have hdd : Hid (dg = (dn : Int) ∧ dn = dg.toNat) := ⟨by omega, hdn⟩
            have OS : Hid _ := own_store (O := O2) hH2.out.1 hH2.out.2.2.2.2 (i + k) dn
            clear hdg hcq hdN hdn
            go_wp2
            go_roundw
            case rel =>
              have h1 := OS.out.1
              have h2 := OS.out.2
              rw [← hdd.out.1] at h1 h2
              refine ⟨cq, k + 1, O2.set (i + k) dn, congrArg (Value.int .i64) eq, by go_num, cq0, cq1, by omega, ?_, by rw [List.length_set]; exact hH2.out.2.1, Bg.dok_set hH2.out.2.2.1 _ (by have := hdd.out; omega), by have := STEP.out; rw [← hdd.out.2] at this; exact this, ?_⟩
              · exact h1
              · exact h2
            case measure => simp [intOf]; omega
          · go_wp2
            go_roundw
            case rel => exact ⟨i + 1, O2, by go_num, by omega, hH2.out.1, hH2.out.2.1, hH2.out.2.2.1, Bg.times_row A B O2 i k (by omega) (by have := hH2.out.2.2.2.1; rw [show cn.toNat = 0 from by omega] at this; exact this), hH2.out.2.2.2.2⟩
            case measure => simp [intOf]; omega
    · obtain ⟨o, cc, ho, o1, o2, o3⟩ := own_rd (by rw [hH.out.2.1]; exact hH.out.1 : wr.ownsRow w.heap.size 3 1 (.slice (some ⟨w.heap.size, 0, none⟩) n n) O.length (vals O))
      have hlO : Hid (O.length = n) := hH.out.2.1
      have hho : Hid (Value.slice (some ⟨w.heap.size, 0, none⟩) n n = .slice o O.length cc) := ho
      have RD : Hid (Rd wr o O ∧ O.length ≤ cc) := ⟨o2, o1⟩
      have NN : Hid (New w.heap.size o cc) := o3
      have HB : Hid (Below w.heap.size w wr ∧ Bg.val O = Bg.val (A.take i) * Bg.val B) := ⟨hH.out.2.2.2.2, hH.out.2.2.2.1⟩
      clear H0 ho o1 o2 o3
      go_wp2_with fail
      rw [hho.out]
      refine (trim_any o O cc _ (by have := hlO.out; omega) (by have := RD.out.2; omega) RD.out.1 hH.out.2.2.1).mono ?_
      rintro e w2 ⟨m, rfl, t1, t2, t3, rfl⟩
      have TT : Hid (m ≤ O.length ∧ Bg.can (O.take m) ∧ Bg.val (O.take m) = Bg.val O) := ⟨t1, t2, t3⟩
      clear t1 t2 t3 hH
      go_wp2
      go_ret
      obtain ⟨t1, t2, t3⟩ := TT.out
      have hl : (O.take m).length = m := by rw [List.length_take]; omega
      refine ⟨o, O.take m, cc, ret_slice hl.symm, by rw [hl]; have := RD.out.2; omega, RD.out.1.take m, t2, ?_, NN.out, HB.out.1⟩
      rw [t3, HB.out.2, Bg.val_take_all A i (by omega)]
end Go.Proofs.Ytdlipponajilbaa
/- What divide of the reference's whole numbers returns: the digits of the quotient, divided down, and of what is left. -/
namespace Bg
theorem can_le {a b : List Nat} (ha : can a) (hb : can b) (h : val a ≤ val b) : a.length ≤ b.length := by
  refine Nat.le_of_not_lt fun x => ?_
  have := cmp_len hb.1 ha x
  omega
/-- one digit more, from the front -/
theorem long_div (H a V : Nat) (hV : 0 < V) : (a + 65536 * H) / V = (a + 65536 * (H % V)) / V + 65536 * (H / V) ∧ (a + 65536 * H) % V = (a + 65536 * (H % V)) % V := by
  have h := Nat.div_add_mod H V
  have e : a + 65536 * H = a + 65536 * (H % V) + V * (65536 * (H / V)) := by
    rw [← Nat.mul_assoc, Nat.mul_comm V 65536, Nat.mul_assoc]
    omega
  rw [e, Nat.add_mul_div_left _ _ hV, Nat.add_mul_mod_self_left]
  exact ⟨rfl, rfl⟩
theorem digit_lt (a r V : Nat) (ha : a < 65536) (hr : r < V) : (a + 65536 * r) / V < 65536 := by
  rw [Nat.div_lt_iff_lt_mul (by omega)]
  have := Nat.mul_le_mul_left 65536 (show r + 1 ≤ V from hr)
  omega
theorem fits_iff (V m R : Nat) (hV : 0 < V) : V * m ≤ R ↔ m ≤ R / V := by rw [Nat.le_div_iff_mul_le hV, Nat.mul_comm]
theorem left_of (V R : Nat) : R - V * (R / V) = R % V ∧ V * (R / V) ≤ R := by
  have := Nat.div_add_mod R V
  omega
theorem val_one (d : Nat) : val [d] = d := by simp [val]
theorem dok_one (d : Nat) (h : d < 65536) : dok [d] := fun x hx => by simp at hx; omega
/-- a digit set from the front -/
theorem drop_set (Q : List Nat) (k d : Nat) (hk : k < Q.length) : val ((Q.set k d).drop k) = d + 65536 * val (Q.drop (k + 1)) := by
  rw [drop_at _ k (by rw [List.length_set]; exact hk), val, getD_at _ _ (by rw [List.length_set]; exact hk), List.getElem_set_self, List.drop_set]
  simp
end Bg
namespace Go.Proofs.Ytdlipponajilbaa
open Go.RowKit
theorem grown_of_below {w w' : World} (h : Below w.heap.size w w') : w.grownBy w' none := ⟨h.os, h.tape, h.output, h.size, fun k hk _ => h.block k hk⟩
theorem own_below {w w' : World} {base e size n : Nat} {v : Value} {xs : List Value} (h : w.ownsRow base e size v n xs) (hb : Below w.heap.size w w') : w'.ownsRow base e size v n xs :=
  h.kept (grown_of_below hb) (by cases v.ownBlock <;> simp)
theorem Rd.store {w : World} {ao : Option Addr} {ds : List Nat} (h : Rd w ao ds) {g p : Nat} (hn : ∀ ad, ao = some ad → ad.block ≠ g) (u : Value) : Rd (w.setCell ⟨g, p, none⟩ u) ao ds := fun k hk => by
  obtain ⟨b, h1, h2, h3⟩ := h k hk
  refine ⟨b, h1, by simpa using h2, ?_⟩
  have hne : b ≠ g := hn _ h1
  rw [← h3]
  exact World.cell?_of_block (Below.heap_setCell w ⟨g, p, none⟩ u b hne)
theorem rd_lit (w : World) (d : Nat) : Rd (w.alloc (.cells #[.int .i64 (d : Int)] 3)) (some ⟨w.heap.size, 0, none⟩) [d] := fun k hk => by
  simp at hk
  subst hk
  exact ⟨w.heap.size, rfl, by simp, by simp⟩
/-- append to a row that the call has made, of another slice, nil or not -/
theorem append_any {P : Program} {w : World} {ops : Array Oper} {rest : List Oper} {o : Oper} {a : Act} {Q : Exit → Act → World → Prop} (hgd : o.guard = none) (s x : Operand) (t : TypeId)
    (ho : o.op = .call { callee := .builtin .append, args := #[s, x], argTypes := #[t, t] })
    (base : Nat) (e : TypeId) (i : TypeInfo) (ht : P.underlying t = some (.slice e)) (hi : P.info? e = some i) (hz : i.zero = some (.int .i64 0))
    (hsize : i.size = 1) (hby : i.bytes = 8)
    (v : Value) (n : Nat) (xs : List Value) (hs : a.eval s = v) (hown : w.ownsRow base e 1 v n xs)
    (ro : Option Addr) (R : List Nat) (c : Nat) (hx : a.eval x = .slice ro R.length c) (hR : Rd w ro R) (hN : ro = none → c = 0) (hc : R.length ≤ c)
    (h63 : n + R.length ≤ 1000000) (hbase : base ≤ w.heap.size)
    (h : ∀ v' w', w'.ownsRow base e 1 v' (n + R.length) (xs ++ vals R) → w.grownBy w' v.ownBlock → wpList P ops Q rest (a.put o.dst v') w') : wpList P ops Q (o :: rest) a w := by
  rcases ro with _ | ad
  · have hc0 := hN rfl
    have hl : R = [] := List.length_eq_zero_iff.1 (by omega)
    subst hl hc0
    refine wpList_append_own_none hgd s x t ho base e i 1 ht hi v n xs hs hown hx ?_
    refine h v w ?_ ⟨rfl, rfl, rfl, Nat.le_refl _, fun _ _ _ => rfl⟩
    simpa [vals] using hown
  · refine wpList_append_own w hgd s x t ho base e i (.int .i64 0) 1 8 ht hi hz hsize hby rfl (by decide) v n xs hs hown ad R.length c (vals R) hx (by rw [vals_len]; omega) ?_ ?_ (by unfold maxLen; omega) (by omega) hbase fun v' w' h1 h2 _ => h v' w' h1 h2
    · intro j u hj
      unfold vals at hj
      rw [List.getElem?_map] at hj
      by_cases hjl : j < R.length
      · rw [List.getElem?_eq_getElem hjl] at hj
        obtain ⟨b, h1, h2, h3⟩ := hR j hjl
        simp at h1
        subst h1
        simp at hj
        subst hj
        rw [Bg.getD_at _ _ hjl] at h3
        by_cases hj0 : j = 0
        · subst hj0; simpa [Addr.add] using h3
        · simpa [Addr.add, hj0] using h3
      · rw [List.getElem?_eq_none (by omega)] at hj
        simp at hj
    · intro u hu
      unfold vals at hu
      simp at hu
      obtain ⟨d, _, rfl⟩ := hu
      rfl
theorem own_one (w : World) (x : Int) : (w.alloc (.cells #[.int .i64 x] 3)).ownsRow w.heap.size 3 1 (.slice (some ⟨w.heap.size, 0, none⟩) 1 1) 1 [.int .i64 x] :=
  World.ownsRow_lit w #[.int .i64 x] 1 (Nat.le_refl _) (by decide) rfl
theorem vals_one (x : Int) (d : Nat) (R : List Nat) (h : x = (d : Int)) : [Value.int .i64 x] ++ vals R = vals (d :: R) := by
  rw [h]; simp [vals]
theorem trim_rd (ao : Option Addr) (ds : List Nat) (cap : Nat) (w : World) (hn1 : (ds.length : Int) ≤ 1000000) (hc : (ds.length : Int) ≤ cap) (hr : Rd w ao ds) (hd : Bg.dok ds) :
    Calls Try.prog 85 #[.slice ao ds.length cap] w fun e w' => ∃ R : List Nat, e = .returned (.slice ao R.length cap) ∧ R.length ≤ ds.length ∧ Bg.can R ∧ Bg.val R = Bg.val ds ∧ Rd w ao R ∧ w = w' := by
  refine (trim_any ao ds cap w hn1 hc hr hd).mono ?_
  rintro e w' ⟨m, rfl, h1, h2, h3, rfl⟩
  have hl : (ds.take m).length = m := by rw [List.length_take]; omega
  exact ⟨ds.take m, ret_slice hl.symm, by omega, h2, h3, hr.take m, rfl⟩
/-- a product with one digit -/
theorem times_one (bo : Option Addr) (B : List Nat) (cb : Nat) (d : Nat) (g : Nat) (w : World) (hB : (B.length : Int) ≤ 100000) (rb : Rd w bo B) (db : Bg.dok B) (hd : d < 65536) (rd : Rd w (some ⟨g, 0, none⟩) [d]) :
    Calls Try.prog 76 #[.slice bo B.length cb, .slice (some ⟨g, 0, none⟩) 1 1] w fun e w' => ∃ (o : Option Addr) (ds : List Nat) (c : Nat), e = .returned (.slice o ds.length c) ∧ ds.length ≤ c ∧ Rd w' o ds ∧ Bg.can ds ∧ Bg.val ds = Bg.val B * d ∧ New w.heap.size o c ∧ Below w.heap.size w w' := by
  have := times_any bo (some ⟨g, 0, none⟩) B [d] cb 1 w hB (by simp) rb rd db (Bg.dok_one d hd)
  rw [Bg.val_one] at this
  exact this
/-- what holds ahead of each digit of the quotient -/
structure Dv (w wr : World) (A : List Nat) (V : Nat) (j : Int) (ro : Option Addr) (rc : Nat) (R Q : List Nat) : Prop where
  own : wr.ownsRow w.heap.size 3 1 (.slice (some ⟨w.heap.size, 0, none⟩) A.length A.length) A.length (vals Q)
  len : Q.length = A.length
  dq : Bg.dok Q
  rd : Rd wr ro R
  can : Bg.can R
  cap : R.length ≤ rc
  new : New (w.heap.size + 1) ro rc
  rest : Bg.val R = Bg.val (A.drop (j + 1).toNat) % V
  quo : Bg.val (Q.drop (j + 1).toNat) = Bg.val (A.drop (j + 1).toNat) / V
  below : Below w.heap.size w wr
  size : w.heap.size + 1 ≤ wr.heap.size
set_option maxRecDepth 20000 in
set_option maxHeartbeats 4000000 in
theorem divide_any (ao bo : Option Addr) (A B : List Nat) (ca cb : Nat) (w : World) (hA : (A.length : Int) ≤ 50000) (hB : (B.length : Int) ≤ 50000) (ra : Rd w ao A) (rb : Rd w bo B) (da : Bg.dok A) (db : Bg.dok B) (hV : 0 < Bg.val B) :
    Calls Try.prog 75 #[.slice ao A.length ca, .slice bo B.length cb] w fun e w' => ∃ (qo ro : Option Addr) (Q R : List Nat) (qc rc : Nat), e = .returned (.tuple #[.slice qo Q.length qc, .slice ro R.length rc]) ∧ Q.length ≤ qc ∧ R.length ≤ rc ∧ Rd w' qo Q ∧ Rd w' ro R ∧ Bg.can Q ∧ Bg.can R ∧ Bg.val Q = Bg.val A / Bg.val B ∧ Bg.val R = Bg.val A % Bg.val B ∧ New w.heap.size qo qc ∧ Below w.heap.size w w' := by
  have ra' : Hid (Rd w ao A) := ra
  have rb' : Hid (Rd w bo B) := rb
  have da' : Hid (Bg.dok A) := da
  have db' : Hid (Bg.dok B) := db
  have hV' : Hid (0 < Bg.val B) := hV
  obtain ⟨i0, hi, hz0, hz1, hz2⟩ := info_parts info_int
  obtain ⟨V, hVV⟩ : ∃ V, V = Bg.val B := ⟨_, rfl⟩
  have hVe : Hid (V = Bg.val B) := hVV
  clear ra rb da db hV hVV
  go_enter Try.func75, Try.ntmps75
  go_wp2_with (at_make; refine wpList_make_full _ rfl _ _ 67 rfl w.heap.size 3 i0 (.int .i64 0) 1 Try.underlying67 hi hz0 hz1 .i64 .i64 _ _ A.length rfl rfl (by omega) (by omega) (by rw [hz2]; omega) (by unfold maxLen; omega) (Nat.le_refl _) ?_)
  intro w1 hown hgrow
  have H0 : Hid (w1.ownsRow w.heap.size 3 1 (.slice (some ⟨w.heap.size, 0, none⟩) A.length A.length) A.length (vals (List.replicate A.length 0)) ∧ Below w.heap.size w w1) := ⟨by rw [← vals_zeros]; exact hown, (Below.refl _ _).grown hgrow (Nat.le_refl _) (by simp)⟩
  have hw1 : Hid (w.heap.size + 1 ≤ w1.heap.size) := (hown.lt w.heap.size rfl).2
  clear hown hgrow
  go_wp2
  go_loopw [7, 8] (fun r i wr => ∃ (j : Int) (ro : Option Addr) (rc : Nat) (R Q : List Nat), r = .slice ro R.length rc ∧ i = .int .i64 j ∧ -1 ≤ j ∧ j < A.length ∧ (R.length : Int) ≤ B.length ∧ Hid (Dv w wr A V j ro rc R Q)) (fun _ i _ => (intOf i + 1).toNat)
  case atStart =>
    refine ⟨(A.length : Int) - 1, some ⟨w1.heap.size, 0, none⟩, 0, [], List.replicate A.length 0, rfl, rfl, by omega, by omega, by simp, H0.out.1.alloc _, by simp, Bg.dok_zeros _, fun k hk => absurd hk (by simp), Bg.can_nil, by simp, ⟨fun h => by simp at h, fun ad h => by simp at h; subst h; exact hw1.out⟩, ?_, ?_, H0.out.2.alloc (by have := hw1.out; omega) _, by have := hw1.out; simp; omega⟩
    · rw [show ((A.length : Int) - 1 + 1).toNat = A.length from by omega, Bg.val_cmp_zero]; simp [Bg.val]
    · rw [show ((A.length : Int) - 1 + 1).toNat = A.length from by omega, Bg.val_cmp_zero]; simp [Bg.val]
  case round =>
    obtain ⟨j, ro, rc, R, Q, rfl, rfl, hj0, hj1, hRl, hH⟩ := hrel
    clear H0 hw1
    by_cases hj : j < 0
    · have hRl2 : Hid (R.length ≤ rc) := hH.out.cap
      obtain ⟨o, cc, ho, o1, o2, o3⟩ := own_rd (by rw [hH.out.len]; exact hH.out.own : wr.ownsRow w.heap.size 3 1 (.slice (some ⟨w.heap.size, 0, none⟩) A.length A.length) Q.length (vals Q))
      have hho : Hid (Value.slice (some ⟨w.heap.size, 0, none⟩) A.length A.length = .slice o Q.length cc) := ho
      have RD : Hid (Rd wr o Q ∧ Q.length ≤ cc ∧ Q.length = A.length) := ⟨o2, o1, hH.out.len⟩
      have NQ : Hid (New w.heap.size o cc) := o3
      clear ho o1 o2 o3
      go_wp2_with fail
      rw [hho.out]
      refine (trim_rd o Q cc _ (by have := RD.out.2.2; omega) (by have := RD.out.2.1; omega) RD.out.1 hH.out.dq).mono ?_
      rintro e w3 ⟨Q2, rfl, r1, r2, r3, r4, rfl⟩
      have F3 : Hid (Q2.length ≤ Q.length ∧ Bg.can Q2 ∧ Bg.val Q2 = Bg.val Q ∧ Rd wr o Q2) := ⟨r1, r2, r3, r4⟩
      clear r1 r2 r3 r4
      go_wp2
      go_ret2
      obtain ⟨r1, r2, r3, r4⟩ := F3.out
      have hq := hH.out.quo
      have hr := hH.out.rest
      rw [show (j + 1).toNat = 0 from by omega, List.drop_zero, hVe.out] at hr
      rw [show (j + 1).toNat = 0 from by omega, List.drop_zero, List.drop_zero, hVe.out] at hq
      exact ⟨o, ro, Q2, R, cc, rc, rfl, by have := RD.out.2.1; omega, hRl2.out, r4, hH.out.rd, r2, hH.out.can, by rw [r3, hq], hr, NQ.out, hH.out.below⟩
    · obtain ⟨b, x, g1, g2, g3, hx, x0, x1⟩ := (ra'.out.below hH.out.below (Nat.le_refl _)).at da'.out j.toNat (by omega)
      have hix : ∀ w, Sem.run Try.prog (Instr.indexAt 67 (.slice ao A.length ca) (.int .i64 j)) w = .ok (.pointer (some ⟨b, j.toNat, none⟩)) w := idx_run A.length ca j.toNat j g1.out (by omega) (by omega)
      have RDA : Hid (Rd (wr.alloc (.cells #[.int .i64 x] 3)) ro R) := hH.out.rd.below ((Below.refl wr.heap.size wr).alloc (Nat.le_refl _) _) (Nat.le_refl _)
      have NW : Hid (ro = none → rc = 0) := hH.out.new.1
      have hcap : (R.length : Int) ≤ rc := by have := hH.out.cap; omega
      go_wp2_with (at_builtin; refine append_any rfl _ _ 67 rfl wr.heap.size 3 i0 Try.underlying67 hi hz0 hz1 hz2 _ _ _ rfl (own_one wr x) ro R rc rfl RDA.out NW.out (by omega) (by omega) (by simp) ?_)
      intro v2 w2 hown2 hgrow2
      obtain ⟨L, hL⟩ : ∃ L, L = A.getD j.toNat 0 :: R := ⟨_, rfl⟩
      have hown3 : w2.ownsRow wr.heap.size 3 1 v2 L.length (vals L) := by
        rw [hL, ← vals_one x _ R hx.out, List.length_cons, Nat.add_comm]; exact hown2
      have hLl : (L.length : Int) ≤ (B.length : Int) + 1 := by rw [hL, List.length_cons]; omega
      have BW2 : Below wr.heap.size wr w2 := ((Below.refl _ _).alloc (Nat.le_refl _) _).grown hgrow2 (by simp) (by intro k hk; simp [Value.ownBlock] at hk; omega)
      obtain ⟨o2, c2, rfl, q1, q2, q3⟩ := own_rd hown3
      have hLd : Bg.dok L := by rw [hL]; intro d hd; simp at hd; rcases hd with hd | hd; · rw [hd]; exact Bg.dok_getD da'.out _
                                · exact hH.out.can.1 d hd
      have F2 : Hid (L = A.getD j.toNat 0 :: R ∧ Below wr.heap.size wr w2 ∧ New wr.heap.size o2 c2 ∧ Rd w2 o2 L ∧ L.length ≤ c2 ∧ Bg.dok L) := ⟨hL, BW2, q3, q2, q1, hLd⟩
      have OQ : Hid (w2.ownsRow w.heap.size 3 1 (.slice (some ⟨w.heap.size, 0, none⟩) A.length A.length) A.length (vals Q) ∧ Below w.heap.size w w2 ∧ New (w.heap.size + 1) o2 c2 ∧ w.heap.size + 1 ≤ w2.heap.size) :=
        ⟨own_below hH.out.own BW2, hH.out.below.trans (BW2.mono (by have := hH.out.size; omega)), ⟨q3.1, fun ad h => Nat.le_trans hH.out.size (q3.2 ad h)⟩, Nat.le_trans hH.out.size BW2.size⟩
      have HQ : Hid (Q.length = A.length ∧ Bg.dok Q ∧ Bg.val R = Bg.val (A.drop (j + 1).toNat) % V ∧ Bg.val (Q.drop (j + 1).toNat) = Bg.val (A.drop (j + 1).toNat) / V) := ⟨hH.out.len, hH.out.dq, hH.out.rest, hH.out.quo⟩
      clear hown2 hown3 hgrow2 hL BW2 q1 q2 q3 hLd RDA
      go_wp2_with fail
      refine (trim_rd o2 L c2 w2 (by omega) (by have := F2.out.2.2.2.2.1; omega) F2.out.2.2.2.1 F2.out.2.2.2.2.2).mono ?_
      rintro e w3 ⟨R2, rfl, r1, r2, r3, r4, rfl⟩
      have hR2l : (R2.length : Int) ≤ (B.length : Int) + 1 := by omega
      obtain ⟨D, hD⟩ : ∃ D : Int, D = ((Bg.val R2 / V : Nat) : Int) := ⟨_, rfl⟩
      have F3 : Hid (R2.length ≤ L.length ∧ Bg.can R2 ∧ Bg.val R2 = Bg.val L ∧ Rd w2 o2 R2 ∧ D = ((Bg.val R2 / V : Nat) : Int)) := ⟨r1, r2, r3, r4, hD⟩
      have hDb : 0 ≤ D ∧ D ≤ 65535 := by
        have hVp := hV'.out
        have hVe2 := hVe.out
        have := Bg.digit_lt (A.getD j.toNat 0) (Bg.val R) V (Bg.dok_getD da'.out _) (by rw [hH.out.rest]; exact Nat.mod_lt _ (by omega))
        rw [hD, r3, F2.out.1]
        rw [Bg.val]
        generalize (A.getD j.toNat 0 + 65536 * Bg.val R) / V = q at *
        omega
      obtain ⟨D0, D1⟩ := hDb
      clear r1 r2 r3 r4 hD
      go_wp2
      go_loopw [10, 11] (fun lo hi wv => ∃ (l h : Int), lo = .int .i64 l ∧ hi = .int .i64 h ∧ 0 ≤ l ∧ l ≤ h ∧ h ≤ 65535 ∧ l ≤ D ∧ D ≤ h ∧ Hid (Below w2.heap.size w2 wv)) (fun lo hi _ => (intOf hi - intOf lo).toNat)
      case atStart => exact ⟨0, 65535, rfl, rfl, by omega, by omega, by omega, D0, D1, Below.refl _ _⟩
      case round =>
        obtain ⟨l, h, rfl, rfl, l0, lh, h1, lD, Dh, hB2⟩ := hrel
        have BWV : Below w.heap.size w wr := OQ.out.2.1.trans (hB2.out.mono (by have := OQ.out.2.2.2; omega))
        have BV : Hid (Below w.heap.size w wr) := BWV
        clear BWV
        by_cases hlh : l < h
        · obtain ⟨m, hm⟩ : ∃ m : Int, m = (l + h + 1) / 2 := ⟨_, rfl⟩
          have em : (l + h + 1) / 2 = m := hm.symm
          have hm1 : l < m := by omega
          have hm2 : m ≤ h := by omega
          obtain ⟨d, hd⟩ : ∃ d : Nat, m = (d : Int) := Int.eq_ofNat_of_zero_le (by omega)
          have hd' : Hid (m = (d : Int)) := hd
          clear hm hd
          go_wp2_with fail
          have RL : Rd (wr.alloc (.cells #[.int .i64 m] 3)) (some ⟨wr.heap.size, 0, none⟩) [d] := by rw [hd'.out]; exact rd_lit wr d
          have RB : Rd (wr.alloc (.cells #[.int .i64 m] 3)) bo B := rb'.out.below (BV.out.alloc BV.out.size _) (Nat.le_refl _)
          refine (times_one bo B cb d wr.heap.size _ (by omega) RB db'.out (by have := hd'.out; omega) RL).mono ?_
          rintro e w4 ⟨o3, T, c3, rfl, t1, t2, t3, t4, t5, t6⟩
          have hB4 : Below w2.heap.size w2 w4 := (hB2.out.alloc hB2.out.size _).trans (t6.mono (by have := hB2.out.size; simp; omega))
          have hTl : T.length ≤ B.length + 1 := Bg.can_len t3 _ (by
            rw [t4, Nat.pow_succ]
            exact Nat.mul_lt_mul'' (Bg.val_lt B db'.out) (by have := hd'.out; omega))
          have hTl' : (T.length : Int) ≤ (B.length : Int) + 1 := by omega
          have F5 : Hid (Rd w4 o3 T ∧ Bg.can T ∧ Bg.val T = Bg.val B * d ∧ Below w2.heap.size w2 w4) := ⟨t2, t3, t4, hB4⟩
          clear RL RB t1 t2 t3 t4 t5 t6 hB4 hTl
          go_wp2_with fail
          refine (compare_any o3 o2 T R2 c3 c2 w4 (by omega) (by omega) F5.out.1 (F3.out.2.2.2.1.below F5.out.2.2.2 (Nat.le_refl _)) F5.out.2.1 F3.out.2.1).mono ?_
          rintro e w5 ⟨r, rfl, hr, n, rfl⟩
          have hcmp : (r ≤ 0 → m ≤ D) ∧ (¬ r ≤ 0 → D < m) := by
            have hVp := hV'.out
            have e1 := F5.out.2.2.1
            have e2 := F3.out.2.2.2.2
            have e3 := Bg.fits_iff V d (Bg.val R2) (by rw [hVe.out]; exact hVp)
            rw [← hVe.out] at e1
            have e4 := hd'.out
            generalize Bg.val R2 / V = DD at *
            generalize Bg.val R2 = X at *
            generalize Bg.val T = Y at *
            generalize V * d = Z at *
            refine ⟨fun h0 => ?_, fun h0 => ?_⟩
            · have : Z ≤ X := by omega
              have := e3.1 this
              omega
            · have : ¬ Z ≤ X := by omega
              have : ¬ d ≤ DD := fun y => this (e3.2 y)
              omega
          have CM : Hid ((r ≤ 0 → m ≤ D) ∧ (¬ r ≤ 0 → D < m)) := hcmp
          clear hr hcmp
          by_cases hr0 : r ≤ 0
          · have hmD := CM.out.1 hr0
            go_wp2
            go_roundw
            case rel => exact ⟨m, h, rfl, rfl, by omega, by omega, by omega, by omega, by omega, below_drewN F5.out.2.2.2 n⟩
            case measure => simp [intOf]; omega
          · have hmD := CM.out.2 hr0
            go_wp2
            go_roundw
            case rel => exact ⟨l, m - 1, rfl, rfl, by omega, by omega, by omega, by omega, by omega, below_drewN F5.out.2.2.2 n⟩
            case measure => simp [intOf]; omega
        · have hlD : l = D := by omega
          have hlD' : Hid (l = D) := hlD
          clear hlD
          obtain ⟨d, hd⟩ : ∃ d : Nat, l = (d : Int) := Int.eq_ofNat_of_zero_le l0
          have hd' : Hid (l = (d : Int)) := hd
          clear hd
          have OW : wr.ownsRow w.heap.size 3 1 (.slice (some ⟨w.heap.size, 0, none⟩) A.length A.length) A.length (vals Q) := own_below OQ.out.1 hB2.out
          obtain ⟨z, z1, z2, hzz, z3, z4⟩ := own_at OW HQ.out.1 HQ.out.2.1 j.toNat (by omega)
          have hiz : ∀ v, Sem.run Try.prog (Instr.indexAt 67 (.slice (some ⟨w.heap.size, 0, none⟩) A.length A.length) (.int .i64 j)) v = .ok (.pointer (some ⟨w.heap.size, j.toNat, none⟩)) v := idx_run A.length A.length j.toNat j rfl (by omega) (by omega)
          have OS := own_store OW BV.out j.toNat d
          rw [← hd'.out] at OS
          have OS' : Hid _ := OS
          have RS : Rd (wr.setCell ⟨w.heap.size, j.toNat, none⟩ (.int .i64 l)) o2 R2 := (F3.out.2.2.2.1.below hB2.out (Nat.le_refl _)).store (fun ad h => by have := OQ.out.2.2.1.2 ad h; omega) _
          have RS' : Hid _ := RS
          clear OW OS RS
          go_wp2_with fail
          have hsz : (wr.setCell ⟨w.heap.size, j.toNat, none⟩ (.int .i64 l)).heap.size = wr.heap.size := by simp
          have RL := rd_lit (wr.setCell ⟨w.heap.size, j.toNat, none⟩ (.int .i64 l)) d
          rw [← hd'.out, hsz] at RL
          have hwrs : w.heap.size ≤ wr.heap.size := BV.out.size
          have RB := rb'.out.below (OS'.out.2.alloc (by rw [hsz]; exact hwrs) (.cells #[.int .i64 l] 3)) (Nat.le_refl _)
          refine (times_one bo B cb d wr.heap.size _ (by omega) RB db'.out (by have := hd'.out; omega) RL).mono ?_
          rintro e w4 ⟨o3, T, c3, rfl, t1, t2, t3, t4, t5, t6⟩
          have BA : Below (wr.setCell ⟨w.heap.size, j.toNat, none⟩ (.int .i64 l)).heap.size (wr.setCell ⟨w.heap.size, j.toNat, none⟩ (.int .i64 l)) w4 :=
            ((Below.refl _ _).alloc (Nat.le_refl _) _).trans (t6.mono (by simp))
          have O4 : w4.ownsRow w.heap.size 3 1 (.slice (some ⟨w.heap.size, 0, none⟩) A.length A.length) A.length (vals (Q.set j.toNat d)) := own_below OS'.out.1 BA
          have B4 : Below w.heap.size w w4 := OS'.out.2.trans (BA.mono (by rw [hsz]; exact hwrs))
          have R4 : Rd w4 o2 R2 := Rd.below RS'.out BA (Nat.le_refl _)
          have S4 : w.heap.size + 1 ≤ w4.heap.size := by
            have h1 := BA.size
            rw [hsz] at h1
            have h2 := hB2.out.size
            have h3 := OQ.out.2.2.2
            omega
          have hdD : d = Bg.val R2 / V := by
            have h1 := hd'.out
            have h2 := hlD'.out
            have h3 := F3.out.2.2.2.2
            omega
          have hle := Bg.left_of V (Bg.val R2)
          rw [← hdD] at hle
          have hTV : Bg.val T = V * d := by rw [t4, hVe.out]
          have hTR : T.length ≤ R2.length := Bg.can_le t3 F3.out.2.1 (by rw [hTV]; exact hle.2)
          have hTR' : (T.length : Int) ≤ R2.length := by omega
          have F6 : Hid (w4.ownsRow w.heap.size 3 1 (.slice (some ⟨w.heap.size, 0, none⟩) A.length A.length) A.length (vals (Q.set j.toNat d)) ∧ Below w.heap.size w w4 ∧ Rd w4 o2 R2 ∧ w.heap.size + 1 ≤ w4.heap.size ∧ d = Bg.val R2 / V ∧ Bg.val T = V * d ∧ Bg.val R2 - V * d = Bg.val R2 % V ∧ V * d ≤ Bg.val R2 ∧ Rd w4 o3 T ∧ Bg.can T) := ⟨O4, B4, R4, S4, hdD, hTV, hle.1, hle.2, t2, t3⟩
          clear RL RB t1 t2 t3 t4 t5 t6 BA O4 B4 R4 S4 hdD hle hTV hTR hsz hwrs
          go_wp2_with fail
          refine (minus_any o2 o3 R2 T c2 c3 w4 (by omega) (by omega) F6.out.2.2.1 F6.out.2.2.2.2.2.2.2.2.1 F3.out.2.1.1 F6.out.2.2.2.2.2.2.2.2.2.1 (by rw [F6.out.2.2.2.2.2.1]; exact F6.out.2.2.2.2.2.2.2.1)).mono ?_
          rintro e w5 ⟨o5, R3, c5, rfl, p1, p2, p3, p4, p5, p6⟩
          have hVp : 0 < V := by rw [hVe.out]; exact hV'.out
          have hR3 : Bg.val R3 = Bg.val R2 % V := by rw [p4, F6.out.2.2.2.2.2.1]; exact F6.out.2.2.2.2.2.2.1
          have hR3l : R3.length ≤ B.length := Bg.can_len p3 _ (by
            have h1 := Nat.mod_lt (Bg.val R2) hVp
            have h2 := Bg.val_lt B db'.out
            rw [← hVe.out] at h2
            omega)
          have hR3l' : (R3.length : Int) ≤ B.length := by omega
          have hA2 : Bg.val (A.drop j.toNat) = A.getD j.toNat 0 + 65536 * Bg.val (A.drop (j.toNat + 1)) := by rw [Bg.drop_at A j.toNat (by omega), Bg.val]
          have hj2 : (j + 1).toNat = j.toNat + 1 := by omega
          have hq := HQ.out
          rw [hj2] at hq
          have hR2v : Bg.val R2 = A.getD j.toNat 0 + 65536 * (Bg.val (A.drop (j.toNat + 1)) % V) := by rw [F3.out.2.2.1, F2.out.1, Bg.val, hq.2.2.1]
          obtain ⟨ld1, ld2⟩ := Bg.long_div (Bg.val (A.drop (j.toNat + 1))) (A.getD j.toNat 0) V hVp
          have NEXT : Hid (Dv w w5 A V (j - 1) o5 c5 R3 (Q.set j.toNat d)) := by
            refine ⟨own_below F6.out.1 p6, by rw [List.length_set]; exact hq.1, Bg.dok_set hq.2.1 _ (by have := hd'.out; omega), p2, p3, p1, ⟨p5.1, fun ad h => Nat.le_trans F6.out.2.2.2.1 (p5.2 ad h)⟩, ?_, ?_, F6.out.2.1.trans (p6.mono (by have := F6.out.2.2.2.1; omega)), Nat.le_trans F6.out.2.2.2.1 p6.size⟩
            · rw [show (j - 1 + 1).toNat = j.toNat from by omega, hR3, hR2v, hA2, ld2]
            · rw [show (j - 1 + 1).toNat = j.toNat from by omega, Bg.drop_set Q j.toNat d (by rw [hq.1]; omega), hA2, ld1, hq.2.2.2, F6.out.2.2.2.2.1, hR2v]
          clear p1 p2 p3 p4 p5 p6 hR3 hR3l hA2 hq hR2v ld1 ld2 hj2 hVp
          go_wp2
          go_roundw
          case rel => exact ⟨j - 1, o5, c5, R3, Q.set j.toNat d, rfl, by go_num, by omega, by omega, hR3l', NEXT.out⟩
          case measure => simp [intOf]; omega
end Go.Proofs.Ytdlipponajilbaa
/- What of of the reference's whole numbers returns: the digits and the sign of a number of 64 bits. -/
namespace Go.Proofs.Ytdlipponajilbaa
open Go.RowKit
/-- a size with a sign -/
def sgn (m : Bool) (n : Nat) : Int := if m then -(n : Int) else (n : Int)
/-- a number of digits and a sign, as it is handed on -/
def IsBig (B : Nat) (w : World) (v : Value) (z : Int) : Prop := ∃ (o : Option Addr) (ds : List Nat) (c : Nat) (m : Bool), v = .agg #[.slice o ds.length c, .bool m] ∧ ds.length ≤ c ∧ Rd w o ds ∧ Bg.can ds ∧ z = sgn m (Bg.val ds) ∧ New B o c
theorem New.mono {B B' : Nat} {o : Option Addr} {c : Nat} (h : New B o c) (hB : B' ≤ B) : New B' o c := ⟨h.1, fun ad e => Nat.le_trans hB (h.2 ad e)⟩
theorem IsBig.below {B C : Nat} {w w' : World} {v : Value} {z : Int} (h : IsBig C w v z) (hb : Below B w w') (hB : w.heap.size ≤ B) : IsBig C w' v z := by
  obtain ⟨o, ds, c, m, h1, h2, h3, h4, h5⟩ := h
  exact ⟨o, ds, c, m, h1, h2, h3.below hb hB, h4, h5⟩
theorem two_cells {w : World} {b : Nat} {x y : Value} {t : TypeId} (h : w.heap[b]? = some (.cells #[x, y] t (0, 0))) :
    w.cell? ⟨b, 0, none⟩ = some x ∧ w.cell? ⟨b, 1, none⟩ = some y ∧ w.frozen? ⟨b, 0, none⟩ = false ∧ w.frozen? ⟨b, 1, none⟩ = false := by
  simp [World.cell?, World.frozen?, h]
theorem new_two (w : World) (x y : Obj) : ((w.alloc x).alloc y).heap[w.heap.size + 1]? = some y := by
  have := heap_alloc_new (w.alloc x) y
  rw [show (w.alloc x).heap.size = w.heap.size + 1 from by simp] at this
  exact this
theorem own_shape {w : World} {base e n : Nat} {v : Value} {xs : List Value} (h : w.ownsRow base e 1 v n xs) : ∃ o c, v = .slice o n c := by
  obtain ⟨_, ⟨rfl, rfl⟩ | ⟨g, cap, cur, rfl, _⟩⟩ := h
  · exact ⟨none, 0, rfl⟩
  · exact ⟨_, cap, rfl⟩
theorem four_digits (k U N : Nat) (o : Nat) (h : o + 65536 ^ k * U = N) (hU : 0 < U) (hN : N < 18446744073709551616) : k < 4 := by
  refine Nat.lt_of_not_le fun x => ?_
  have h1 : 65536 ^ 4 ≤ 65536 ^ k := Nat.pow_le_pow_right (by decide) x
  have h2 := Nat.mul_le_mul_left (65536 ^ k) (show 1 ≤ U from hU)
  omega
theorem of_step (O : List Nat) (U N : Nat) (h : Bg.val O + 65536 ^ O.length * U = N) : Bg.val (O ++ [U % 65536]) + 65536 ^ (O ++ [U % 65536]).length * (U / 65536) = N := by
  rw [Bg.val_snoc, List.length_append, List.length_singleton, Nat.pow_succ, Nat.mul_assoc]
  have := Nat.mod_add_div U 65536
  have e : 65536 ^ O.length * (U % 65536 + 65536 * (U / 65536)) = 65536 ^ O.length * U := by rw [this]
  rw [Nat.mul_add] at e
  omega
/-- ahead of each digit -/
structure Ofd (w wr : World) (m : Bool) (N U : Nat) (O : List Nat) (v : Value) : Prop where
  res : wr.heap[w.heap.size]? = some (.cells #[.slice none 0 0, .bool false] 69 (0, 0))
  var : wr.heap[w.heap.size + 1]? = some (.cells #[v, .bool m] 69 (0, 0))
  own : wr.ownsRow (w.heap.size + 2) 3 1 v O.length (vals O)
  dok : Bg.dok O
  eq : Bg.val O + 65536 ^ O.length * U = N
  front : U = 0 → Bg.can O
  below : Below w.heap.size w wr
  size : w.heap.size + 2 ≤ wr.heap.size
theorem of_next {w wr w1 : World} {m : Bool} {N U : Nat} {O : List Nat} {v v' : Value} (h : Ofd w wr m N U O v) (hU : 0 < U) (hown : w1.ownsRow (w.heap.size + 2) 3 1 v' (O.length + 1) (vals O ++ [.int .i64 ((U % 65536 : Nat) : Int)])) (hg : (wr.alloc (.cells #[.int .i64 ((U % 65536 : Nat) : Int)] 3)).grownBy w1 v.ownBlock) :
    w1.heap[w.heap.size + 1]? = some (.cells #[v, .bool m] 69 (0, 0)) ∧ Ofd w (w1.setCell ⟨w.heap.size + 1, 0, none⟩ v') m N (U / 65536) (O ++ [U % 65536]) v' := by
  have hs := h.size
  have hrow : ∀ k, k < w.heap.size + 2 → some k ≠ v.ownBlock := fun k hk e => by
    have := (h.own.lt k e.symm).1
    omega
  have hkeep : ∀ k, k < w.heap.size + 2 → w1.heap[k]? = wr.heap[k]? := fun k hk => by
    rw [hg.block k (by simp; omega) (hrow k hk)]
    exact Below.heap_alloc wr _ k (by omega)
  have hvar : w1.heap[w.heap.size + 1]? = some (.cells #[v, .bool m] 69 (0, 0)) := by rw [hkeep _ (by omega)]; exact h.var
  refine ⟨hvar, ?_⟩
  have hown2 : w1.ownsRow (w.heap.size + 2) 3 1 v' (O ++ [U % 65536]).length (vals (O ++ [U % 65536])) := by
    rw [← vals_snoc, List.length_append, List.length_singleton]; exact hown
  have hb1 : Below w.heap.size w w1 := (h.below.alloc (by omega) _).grown hg (by simp; omega) (fun k e => by have := (h.own.lt k e).1; omega)
  refine ⟨?_, ?_, ownsRow_setCell_below hown2 (by simp) _, Bg.dok_snoc h.dok (Nat.mod_lt _ (by decide)), of_step O U N h.eq, ?_, hb1.setCell (by simp) _, ?_⟩
  · rw [Below.heap_setCell _ _ _ _ (by simp), hkeep _ (by omega)]; exact h.res
  · have := heap_setCell_same w1 (w.heap.size + 1) 0 _ 69 v' hvar
    simpa using this
  · intro h0
    refine ⟨Bg.dok_snoc h.dok (Nat.mod_lt _ (by decide)), Or.inr ?_⟩
    have hl : (O ++ [U % 65536]).length - 1 = O.length := by simp
    rw [hl, Bg.getD_at _ _ (by simp), List.getElem_append_right (by omega)]
    simp
    omega
  · have h1 := hg.size
    simp at h1 ⊢
    omega
theorem of_big {w wr : World} {m : Bool} {N U : Nat} {O : List Nat} {o : Option Addr} {c : Nat} {n : Int} {x y : Value} (h : Ofd w wr m N U O (.slice o O.length c)) (hU : U = 0) (hn : n = sgn m N) :
    IsBig w.heap.size ((wr.setCell ⟨w.heap.size, 0, none⟩ x).setCell ⟨w.heap.size, 1, none⟩ y) (.agg #[.slice o O.length c, .bool m]) n := by
  obtain ⟨o', c', e, h1, h2, h3⟩ := own_rd h.own
  simp at e
  obtain ⟨rfl, rfl⟩ := e
  have hne : ∀ ad, o = some ad → ad.block ≠ w.heap.size := fun ad e => by have := h3.2 ad e; omega
  have hv := h.eq
  rw [hU, Nat.mul_zero] at hv
  exact ⟨o, O, c, m, rfl, h1, (h2.store hne x).store hne y, h.front hU, by rw [hn, ← hv]; rfl, h3.mono (by omega)⟩
set_option maxRecDepth 20000 in
set_option maxHeartbeats 2000000 in
theorem of_any (n : Int) (w : World) (hn0 : -9223372036854775808 ≤ n) (hn1 : n ≤ 9223372036854775807) :
    Calls Try.prog 54 #[.int .i64 n] w fun e w' => ∃ v, e = .returned v ∧ IsBig w.heap.size w' v n ∧ Below w.heap.size w w' := by
  obtain ⟨i0, hi, hz0, hz1, hz2⟩ := info_parts info_int
  obtain ⟨N, hN⟩ : ∃ N, N = n.natAbs := ⟨_, rfl⟩
  have hN' : Hid (N = n.natAbs) := hN
  have hNl : Hid (N < 18446744073709551616) := by show _ < _; omega
  clear hN
  by_cases hneg : n < 0
  · go_enter Try.func54, Try.ntmps54
    go_wp2
    go_loopw [4] (fun u wr => ∃ (ui : Int) (U : Nat) (O : List Nat) (v : Value), u = .int .u64 ui ∧ 0 ≤ ui ∧ ui < 18446744073709551616 ∧ Hid (ui = (U : Int)) ∧ Hid (Ofd w wr true N U O v)) (fun u _ => (intOf u).toNat)
    case atStart =>
      have hNe := hN'.out
      refine ⟨_, N, [], .slice none 0 0, rfl, by omega, by omega, by show _ = _; omega, ?_, ?_, World.ownsRow_nil _ _ _ _, Bg.dok_nil, by simp [Bg.val], fun _ => Bg.can_nil, ((Below.refl _ _).alloc (Nat.le_refl _) _).alloc (by simp) _, by simp⟩
      · rw [Below.heap_alloc _ _ _ (by simp)]; exact heap_alloc_new _ _
      · exact new_two w _ _
    case round =>
      obtain ⟨ui, U, O, v, rfl, u0, u1, hu, hH⟩ := hrel
      obtain ⟨vo, vc, rfl⟩ := own_shape hH.out.own
      obtain ⟨k1, k2, k3, k4⟩ := two_cells hH.out.var
      obtain ⟨r1, r2, r3, r4⟩ := two_cells hH.out.res
      by_cases hU : 0 < ui
      · obtain ⟨dg, hdg⟩ : ∃ dg : Int, dg = ui % 65536 := ⟨_, rfl⟩
        obtain ⟨uq, huq⟩ : ∃ uq : Int, uq = ui / 65536 := ⟨_, rfl⟩
        have ed : ui % 65536 = dg := hdg.symm
        have eq : ui / 65536 = uq := huq.symm
        have dg0 : 0 ≤ dg := by omega
        have dg1 : dg ≤ 65535 := by omega
        have hlen := four_digits O.length U N _ hH.out.eq (by have := hu.out; omega) hNl.out
        have hlen' : (O.length : Int) < 4 := by omega
        have hsz : w.heap.size + 2 ≤ wr.heap.size := hH.out.size
        have OWN : Hid (wr.ownsRow (w.heap.size + 2) 3 1 (.slice vo O.length vc) O.length (vals O)) := hH.out.own
        have DD : Hid (dg = ((U % 65536 : Nat) : Int) ∧ uq = ((U / 65536 : Nat) : Int) ∧ uq < ui) := by have := hu.out; exact ⟨by omega, by omega, by omega⟩
        clear hdg huq hlen
        go_wp2_with (at_builtin; refine wpList_append_own _ rfl _ _ 67 rfl (w.heap.size + 2) 3 i0 (.int .i64 0) 1 8 Try.underlying67 hi hz0 hz1 hz2 rfl (by decide) _ _ _ rfl (OWN.out.alloc _) ⟨wr.heap.size, 0, none⟩ 1 1 [.int .i64 dg] rfl rfl (cell_new wr dg) (one_new dg) (by unfold maxLen; omega) (by omega) (by simp; omega) ?_)
        intro v' w1 hown' hgrow _
        rw [DD.out.1] at hown' hgrow
        obtain ⟨so, sc, rfl⟩ := own_shape hown'
        obtain ⟨hv1, NX⟩ := of_next hH.out (by have := hu.out; omega) hown' hgrow
        obtain ⟨c1, c2, c3, c4⟩ := two_cells hv1
        have NX' : Hid _ := NX
        clear hown' hgrow NX hv1 k1 k2 k3 k4 r1 r2 r3 r4
        go_wp2
        go_roundw
        case rel => exact ⟨uq, U / 65536, O ++ [U % 65536], _, congrArg (Value.int .u64) eq, by omega, by omega, DD.out.2.1, NX'.out⟩
        case measure => have := DD.out.2.2; simp [intOf]; omega
      · go_wp2
        refine bodyPost_ret (v := .agg #[.slice vo O.length vc, .bool true]) (by simp [results, Try.results54, go_sem, r1, r2]) rfl ⟨_, rfl, ?_, ?_⟩
        · exact of_big hH.out (by have := hu.out; omega) (by have := hN'.out; simp [sgn]; omega)
        · exact (hH.out.below.setCell (Nat.le_refl _) _).setCell (Nat.le_refl _) _
  · have hneg' : decide (n < 0) = false := decide_eq_false hneg
    go_enter Try.func54, Try.ntmps54
    go_wp2
    go_loopw [4] (fun u wr => ∃ (ui : Int) (U : Nat) (O : List Nat) (v : Value), u = .int .u64 ui ∧ 0 ≤ ui ∧ ui < 18446744073709551616 ∧ Hid (ui = (U : Int)) ∧ Hid (Ofd w wr false N U O v)) (fun u _ => (intOf u).toNat)
    case atStart =>
      have hNe := hN'.out
      refine ⟨_, N, [], .slice none 0 0, rfl, by omega, by omega, by show _ = _; omega, ?_, ?_, World.ownsRow_nil _ _ _ _, Bg.dok_nil, by simp [Bg.val], fun _ => Bg.can_nil, ((Below.refl _ _).alloc (Nat.le_refl _) _).alloc (by simp) _, by simp⟩
      · rw [Below.heap_alloc _ _ _ (by simp)]; exact heap_alloc_new _ _
      · exact new_two w _ _
    case round =>
      obtain ⟨ui, U, O, v, rfl, u0, u1, hu, hH⟩ := hrel
      obtain ⟨vo, vc, rfl⟩ := own_shape hH.out.own
      obtain ⟨k1, k2, k3, k4⟩ := two_cells hH.out.var
      obtain ⟨r1, r2, r3, r4⟩ := two_cells hH.out.res
      by_cases hU : 0 < ui
      · obtain ⟨dg, hdg⟩ : ∃ dg : Int, dg = ui % 65536 := ⟨_, rfl⟩
        obtain ⟨uq, huq⟩ : ∃ uq : Int, uq = ui / 65536 := ⟨_, rfl⟩
        have ed : ui % 65536 = dg := hdg.symm
        have eq : ui / 65536 = uq := huq.symm
        have dg0 : 0 ≤ dg := by omega
        have dg1 : dg ≤ 65535 := by omega
        have hlen := four_digits O.length U N _ hH.out.eq (by have := hu.out; omega) hNl.out
        have hlen' : (O.length : Int) < 4 := by omega
        have hsz : w.heap.size + 2 ≤ wr.heap.size := hH.out.size
        have OWN : Hid (wr.ownsRow (w.heap.size + 2) 3 1 (.slice vo O.length vc) O.length (vals O)) := hH.out.own
        have DD : Hid (dg = ((U % 65536 : Nat) : Int) ∧ uq = ((U / 65536 : Nat) : Int) ∧ uq < ui) := by have := hu.out; exact ⟨by omega, by omega, by omega⟩
        clear hdg huq hlen
        go_wp2_with (at_builtin; refine wpList_append_own _ rfl _ _ 67 rfl (w.heap.size + 2) 3 i0 (.int .i64 0) 1 8 Try.underlying67 hi hz0 hz1 hz2 rfl (by decide) _ _ _ rfl (OWN.out.alloc _) ⟨wr.heap.size, 0, none⟩ 1 1 [.int .i64 dg] rfl rfl (cell_new wr dg) (one_new dg) (by unfold maxLen; omega) (by omega) (by simp; omega) ?_)
        intro v' w1 hown' hgrow _
        rw [DD.out.1] at hown' hgrow
        obtain ⟨so, sc, rfl⟩ := own_shape hown'
        obtain ⟨hv1, NX⟩ := of_next hH.out (by have := hu.out; omega) hown' hgrow
        obtain ⟨c1, c2, c3, c4⟩ := two_cells hv1
        have NX' : Hid _ := NX
        clear hown' hgrow NX hv1 k1 k2 k3 k4 r1 r2 r3 r4
        go_wp2
        go_roundw
        case rel => exact ⟨uq, U / 65536, O ++ [U % 65536], _, congrArg (Value.int .u64) eq, by omega, by omega, DD.out.2.1, NX'.out⟩
        case measure => have := DD.out.2.2; simp [intOf]; omega
      · go_wp2
        refine bodyPost_ret (v := .agg #[.slice vo O.length vc, .bool false]) (by simp [results, Try.results54, go_sem, r1, r2]) rfl ⟨_, rfl, ?_, ?_⟩
        · exact of_big hH.out (by have := hu.out; omega) (by have := hN'.out; simp [sgn]; omega)
        · exact (hH.out.below.setCell (Nat.le_refl _) _).setCell (Nat.le_refl _) _
end Go.Proofs.Ytdlipponajilbaa
/- What s, negative, product and sum of the reference's whole numbers return. -/
namespace Go.Proofs.Ytdlipponajilbaa
open Go.RowKit
theorem bcell {W w1 : World} (hb : Below W.heap.size W w1) : (∀ b o, b < W.heap.size → w1.cell? ⟨b, o, none⟩ = W.cell? ⟨b, o, none⟩) ∧ (∀ b o, b < W.heap.size → w1.frozen? ⟨b, o, none⟩ = W.frozen? ⟨b, o, none⟩) :=
  ⟨fun b o h => hb.cell (p := ⟨b, o, none⟩) h, fun b o h => hb.frozen (p := ⟨b, o, none⟩) h⟩
theorem IsBig.mk {B : Nat} {w : World} {o : Option Addr} {ds : List Nat} {c : Nat} {m : Bool} {z : Int} (h1 : ds.length ≤ c) (h2 : Rd w o ds) (h3 : Bg.can ds) (h4 : z = sgn m (Bg.val ds)) (h5 : New B o c) : IsBig B w (.agg #[.slice o ds.length c, .bool m]) z := ⟨o, ds, c, m, rfl, h1, h2, h3, h4, h5⟩
/-- behind three new blocks and any draws -/
theorem three_below (w : World) (x y z : Obj) (n : Nat) : Below w.heap.size w ((((w.alloc x).alloc y).alloc z).drewN n) :=
  below_drewN ((((Below.refl _ _).alloc (Nat.le_refl _) _).alloc (by simp) _).alloc (by simp; omega) _) n
theorem rd3 {w : World} {ao : Option Addr} {A : List Nat} (h : Rd w ao A) (x y z : Obj) (n : Nat) : Rd ((((w.alloc x).alloc y).alloc z).drewN n) ao A := h.below (three_below w x y z n) (Nat.le_refl _)
/-- three new blocks of two cells, behind a call -/
theorem three {n : Nat} {w w1 : World} {x0 x1 y0 y1 z0 z1 : Value} {t : TypeId} (h : Below (((w.alloc (.cells #[x0, x1] t)).alloc (.cells #[y0, y1] t)).alloc (.cells #[z0, z1] t)).heap.size ((((w.alloc (.cells #[x0, x1] t)).alloc (.cells #[y0, y1] t)).alloc (.cells #[z0, z1] t)).drewN n) w1) :
    w1.cell? ⟨w.heap.size, 0, none⟩ = some x0 ∧ w1.cell? ⟨w.heap.size, 1, none⟩ = some x1 ∧ w1.cell? ⟨w.heap.size + 1, 0, none⟩ = some y0 ∧ w1.cell? ⟨w.heap.size + 1, 1, none⟩ = some y1 ∧ w1.cell? ⟨w.heap.size + 1 + 1, 0, none⟩ = some z0 ∧ w1.cell? ⟨w.heap.size + 1 + 1, 1, none⟩ = some z1 ∧ w1.frozen? ⟨w.heap.size + 1 + 1, 0, none⟩ = false ∧ w1.frozen? ⟨w.heap.size + 1 + 1, 1, none⟩ = false := by
  have b0 : w1.heap[w.heap.size]? = some (.cells #[x0, x1] t (0, 0)) := (h.block _ (by simp; omega)).trans (by
    show (((w.alloc (.cells #[x0, x1] t)).alloc (.cells #[y0, y1] t)).alloc (.cells #[z0, z1] t)).heap[w.heap.size]? = _
    rw [Below.heap_alloc _ _ _ (by first | (simp; done) | (simp; omega)), Below.heap_alloc _ _ _ (by simp), heap_alloc_new])
  have b1 : w1.heap[w.heap.size + 1]? = some (.cells #[y0, y1] t (0, 0)) := (h.block _ (by first | (simp; done) | (simp; omega))).trans (by
    show (((w.alloc (.cells #[x0, x1] t)).alloc (.cells #[y0, y1] t)).alloc (.cells #[z0, z1] t)).heap[w.heap.size + 1]? = _
    rw [Below.heap_alloc _ _ _ (by simp), new_two])
  have b2 : w1.heap[w.heap.size + 1 + 1]? = some (.cells #[z0, z1] t (0, 0)) := (h.block _ (by simp)).trans (by
    show (((w.alloc (.cells #[x0, x1] t)).alloc (.cells #[y0, y1] t)).alloc (.cells #[z0, z1] t)).heap[w.heap.size + 1 + 1]? = _
    have := new_two (w.alloc (.cells #[x0, x1] t)) (.cells #[y0, y1] t) (.cells #[z0, z1] t)
    rw [show (w.alloc (.cells #[x0, x1] t)).heap.size = w.heap.size + 1 from by simp] at this
    exact this)
  exact ⟨(two_cells b0).1, (two_cells b0).2.1, (two_cells b1).1, (two_cells b1).2.1, (two_cells b2).1, (two_cells b2).2.1, (two_cells b2).2.2.1, (two_cells b2).2.2.2⟩
theorem kept2 {w1 : World} {b n o : Nat} {p q : Value} (h : n ≠ b) : ((w1.setCell ⟨b, 0, none⟩ p).setCell ⟨b, 1, none⟩ q).cell? ⟨n, o, none⟩ = w1.cell? ⟨n, o, none⟩ :=
  World.cell?_of_block ((Below.heap_setCell _ _ _ _ h).trans (Below.heap_setCell _ _ _ _ h))
theorem keep4 {w1 : World} {n : Nat} {p q x0 x1 y0 y1 : Value} (e0 : w1.cell? ⟨n, 0, none⟩ = some x0) (e1 : w1.cell? ⟨n, 1, none⟩ = some x1) (e2 : w1.cell? ⟨n + 1, 0, none⟩ = some y0) (e3 : w1.cell? ⟨n + 1, 1, none⟩ = some y1) :
    ((w1.setCell ⟨n + 1 + 1, 0, none⟩ p).setCell ⟨n + 1 + 1, 1, none⟩ q).cell? ⟨n, 0, none⟩ = some x0 ∧ ((w1.setCell ⟨n + 1 + 1, 0, none⟩ p).setCell ⟨n + 1 + 1, 1, none⟩ q).cell? ⟨n, 1, none⟩ = some x1 ∧ ((w1.setCell ⟨n + 1 + 1, 0, none⟩ p).setCell ⟨n + 1 + 1, 1, none⟩ q).cell? ⟨n + 1, 0, none⟩ = some y0 ∧ ((w1.setCell ⟨n + 1 + 1, 0, none⟩ p).setCell ⟨n + 1 + 1, 1, none⟩ q).cell? ⟨n + 1, 1, none⟩ = some y1 :=
  ⟨(kept2 (by omega)).trans e0, (kept2 (by omega)).trans e1, (kept2 (by omega)).trans e2, (kept2 (by omega)).trans e3⟩
theorem keepF {w w' : World} {x y z : Obj} {n : Nat} {o : Option Addr} {ds : List Nat} {c N : Nat} (t1 : ds.length ≤ c) (t2 : Rd w' o ds) (t3 : Bg.can ds) (t4 : Bg.val ds = N) (t5 : New (((w.alloc x).alloc y).alloc z).heap.size o c) (t6 : Below (((w.alloc x).alloc y).alloc z).heap.size ((((w.alloc x).alloc y).alloc z).drewN n) w') : Hid (ds.length ≤ c ∧ Rd w' o ds ∧ Bg.can ds ∧ Bg.val ds = N ∧ New (w.heap.size + 3) o c ∧ Below w.heap.size w w') :=
  ⟨t1, t2, t3, t4, by simpa using t5, (three_below w x y z n).trans (t6.mono (by simp; omega))⟩
/-- what is made of digits in new memory, stored as a struct that is handed back -/
theorem big_end {w w1 : World} {o : Option Addr} {ds : List Nat} {c N : Nat} {m : Bool} {Z : Int} {p q : Value} (h : ds.length ≤ c ∧ Rd w1 o ds ∧ Bg.can ds ∧ Bg.val ds = N ∧ New (w.heap.size + 3) o c ∧ Below w.heap.size w w1)
    (hZ : Z = sgn m N) :
    IsBig w.heap.size ((w1.setCell ⟨w.heap.size + 1 + 1, 0, none⟩ p).setCell ⟨w.heap.size + 1 + 1, 1, none⟩ q) (.agg #[.slice o ds.length c, .bool m]) Z ∧ Below w.heap.size w ((w1.setCell ⟨w.heap.size + 1 + 1, 0, none⟩ p).setCell ⟨w.heap.size + 1 + 1, 1, none⟩ q) := by
  obtain ⟨h1, h2, h3, h4, h5, h6⟩ := h
  have hne : ∀ ad, o = some ad → ad.block ≠ w.heap.size + 1 + 1 := fun ad e => by have := h5.2 ad e; omega
  refine ⟨IsBig.mk h1 ((h2.store hne p).store hne q) h3 (by rw [h4]; exact hZ) (h5.mono (by omega)), ?_⟩
  exact (h6.setCell (by simp; omega) _).setCell (by simp; omega) _
set_option maxRecDepth 20000 in
set_option maxHeartbeats 1000000 in
theorem product_any (ao bo : Option Addr) (A B : List Nat) (ca cb : Nat) (ma mb : Bool) (w : World) (hA : (A.length : Int) ≤ 1000) (hB : (B.length : Int) ≤ 1000) (ra : Rd w ao A) (rb : Rd w bo B) (da : Bg.can A) (db : Bg.can B) :
    Calls Try.prog 53 #[.agg #[.slice ao A.length ca, .bool ma], .agg #[.slice bo B.length cb, .bool mb]] w fun e w' => ∃ v, e = .returned v ∧ IsBig w.heap.size w' v (sgn (!(ma == mb)) (Bg.val A * Bg.val B)) ∧ Below w.heap.size w w' := by
  have ra' : Hid (Rd w ao A) := ra
  have rb' : Hid (Rd w bo B) := rb
  have da' : Hid (Bg.dok A) := da.1
  have db' : Hid (Bg.dok B) := db.1
  clear ra rb da db
  go_enter Try.func53, Try.ntmps53
  go_wp2
  go_region_held3 (fun w' => w'.cell? ⟨w.heap.size, 0, none⟩ = some (.slice ao A.length ca) ∧ w'.cell? ⟨w.heap.size, 1, none⟩ = some (.bool ma) ∧ w'.cell? ⟨w.heap.size + 1, 0, none⟩ = some (.slice bo B.length cb) ∧ w'.cell? ⟨w.heap.size + 1, 1, none⟩ = some (.bool mb)) (first | exact ⟨e0, e1, e2, e3⟩ | exact keep4 e0 e1 e2 e3 | go_keep) ((go_at_call 76; refine (times_any ao bo A B ca cb _ (by omega) (by omega) (rd3 ra'.out _ _ _ 1) (rd3 rb'.out _ _ _ 1) da'.out db'.out).mono ?_; rintro e w1 ⟨o, ds, c, rfl, t1, t2, t3, t4, t5, t6⟩; obtain ⟨e0, e1, e2, e3, e4, e5, e6, e7⟩ := three t6; have FF := keepF t1 t2 t3 t4 t5 t6; clear t1 t2 t3 t4 t5 t6))
  go_wp2
  obtain ⟨r1, r2⟩ := big_end (m := !(ma == mb)) (p := .slice o ds.length c) (q := .bool !(ma == mb)) FF.out rfl
  exact bodyPost_ret (v := .agg #[.slice o ds.length c, .bool !(ma == mb)]) (by simp [results, Try.results53, go_sem, e4, e5]) rfl ⟨_, rfl, r1, r2⟩
theorem sgn_sum (ma mb : Bool) (a b : Nat) : (ma = mb → sgn ma a + sgn mb b = sgn ma (a + b)) ∧ (ma ≠ mb → b ≤ a → sgn ma a + sgn mb b = sgn ma (a - b)) ∧ (ma ≠ mb → a ≤ b → sgn ma a + sgn mb b = sgn mb (b - a)) := by
  cases ma <;> cases mb <;> simp [sgn] <;> omega
set_option maxRecDepth 20000 in
set_option maxHeartbeats 2000000 in
theorem sum_any (ao bo : Option Addr) (A B : List Nat) (ca cb : Nat) (ma mb : Bool) (w : World) (hA : (A.length : Int) ≤ 1000) (hB : (B.length : Int) ≤ 1000) (ra : Rd w ao A) (rb : Rd w bo B) (da : Bg.can A) (db : Bg.can B) :
    Calls Try.prog 50 #[.agg #[.slice ao A.length ca, .bool ma], .agg #[.slice bo B.length cb, .bool mb]] w fun e w' => ∃ v, e = .returned v ∧ IsBig w.heap.size w' v (sgn ma (Bg.val A) + sgn mb (Bg.val B)) ∧ Below w.heap.size w w' := by
  have ra' : Hid (Rd w ao A) := ra
  have rb' : Hid (Rd w bo B) := rb
  have da' : Hid (Bg.can A) := da
  have db' : Hid (Bg.can B) := db
  clear ra rb da db
  by_cases hm : ma = mb
  · subst hm
    go_enter Try.func50, Try.ntmps50
    go_wp2
    go_region_held3 (fun w' => w'.cell? ⟨w.heap.size, 0, none⟩ = some (.slice ao A.length ca) ∧ w'.cell? ⟨w.heap.size, 1, none⟩ = some (.bool ma) ∧ w'.cell? ⟨w.heap.size + 1, 0, none⟩ = some (.slice bo B.length cb) ∧ w'.cell? ⟨w.heap.size + 1, 1, none⟩ = some (.bool ma)) (first | exact ⟨e0, e1, e2, e3⟩ | exact keep4 e0 e1 e2 e3 | go_keep) ((go_at_call 72; refine (plus_any ao bo A B ca cb _ (by omega) (by omega) (rd3 ra'.out _ _ _ 1) (rd3 rb'.out _ _ _ 1) da'.out.1 db'.out.1).mono ?_; rintro e w1 ⟨o, ds, c, rfl, t1, t2, t3, t4, t5, t6⟩; obtain ⟨e0, e1, e2, e3, e4, e5, e6, e7⟩ := three t6; have FF := keepF t1 t2 t3 t4 t5 t6; clear t1 t2 t3 t4 t5 t6))
    go_wp2
    obtain ⟨r1, r2⟩ := big_end (m := ma) (p := .slice o ds.length c) (q := .bool ma) FF.out ((sgn_sum ma ma _ _).1 rfl)
    exact bodyPost_ret (v := .agg #[.slice o ds.length c, .bool ma]) (by simp [results, Try.results50, go_sem, e4, e5]) rfl ⟨_, rfl, r1, r2⟩
  · have hm' : (ma == mb) = false := by simpa using hm
    have hm2 : Hid (ma ≠ mb) := hm
    clear hm
    go_enter Try.func50, Try.ntmps50
    go_wp2_with fail
    refine (compare_any ao bo A B ca cb _ (by omega) (by omega) (rd3 ra'.out _ _ _ 0) (rd3 rb'.out _ _ _ 0) da'.out db'.out).mono ?_
    rintro e w2 ⟨r, rfl, hr, n, rfl⟩
    have hr' : Hid ((0 ≤ r → Bg.val B ≤ Bg.val A) ∧ (¬ 0 ≤ r → Bg.val A ≤ Bg.val B)) := ⟨fun _ => by omega, fun _ => by omega⟩
    clear hr
    by_cases hr0 : 0 ≤ r
    · have hle := hr'.out.1 hr0
      have hle' : Hid (Bg.val B ≤ Bg.val A) := hle
      have hlen : (B.length : Int) ≤ A.length := by have := Bg.can_le db'.out da'.out hle; omega
      clear hle hr'
      go_wp2
      go_region_held3 (fun w' => w'.cell? ⟨w.heap.size, 0, none⟩ = some (.slice ao A.length ca) ∧ w'.cell? ⟨w.heap.size, 1, none⟩ = some (.bool ma) ∧ w'.cell? ⟨w.heap.size + 1, 0, none⟩ = some (.slice bo B.length cb) ∧ w'.cell? ⟨w.heap.size + 1, 1, none⟩ = some (.bool mb)) (first | exact ⟨e0, e1, e2, e3⟩ | exact keep4 e0 e1 e2 e3 | go_keep) ((go_at_call 74; refine (minus_any ao bo A B ca cb _ (by omega) (by omega) (rd3 ra'.out _ _ _ (n + 1)) (rd3 rb'.out _ _ _ (n + 1)) da'.out.1 db'.out.1 hle'.out).mono ?_; rintro e w1 ⟨o, ds, c, rfl, t1, t2, t3, t4, t5, t6⟩; obtain ⟨e0, e1, e2, e3, e4, e5, e6, e7⟩ := three t6; have FF := keepF t1 t2 t3 t4 t5 t6; clear t1 t2 t3 t4 t5 t6))
      go_wp2
      obtain ⟨r1, r2⟩ := big_end (m := ma) (p := .slice o ds.length c) (q := .bool ma) FF.out ((sgn_sum ma mb _ _).2.1 hm2.out hle'.out)
      exact bodyPost_ret (v := .agg #[.slice o ds.length c, .bool ma]) (by simp [results, Try.results50, go_sem, e4, e5]) rfl ⟨_, rfl, r1, r2⟩
    · have hle := hr'.out.2 hr0
      have hle' : Hid (Bg.val A ≤ Bg.val B) := hle
      have hlen : (A.length : Int) ≤ B.length := by have := Bg.can_le da'.out db'.out hle; omega
      clear hle hr'
      go_wp2
      go_region_held3 (fun w' => w'.cell? ⟨w.heap.size, 0, none⟩ = some (.slice ao A.length ca) ∧ w'.cell? ⟨w.heap.size, 1, none⟩ = some (.bool ma) ∧ w'.cell? ⟨w.heap.size + 1, 0, none⟩ = some (.slice bo B.length cb) ∧ w'.cell? ⟨w.heap.size + 1, 1, none⟩ = some (.bool mb)) (first | exact ⟨e0, e1, e2, e3⟩ | exact keep4 e0 e1 e2 e3 | go_keep) ((go_at_call 74; refine (minus_any bo ao B A cb ca _ (by omega) (by omega) (rd3 rb'.out _ _ _ (n + 1)) (rd3 ra'.out _ _ _ (n + 1)) db'.out.1 da'.out.1 hle'.out).mono ?_; rintro e w1 ⟨o, ds, c, rfl, t1, t2, t3, t4, t5, t6⟩; obtain ⟨e0, e1, e2, e3, e4, e5, e6, e7⟩ := three t6; have FF := keepF t1 t2 t3 t4 t5 t6; clear t1 t2 t3 t4 t5 t6))
      go_wp2
      obtain ⟨r1, r2⟩ := big_end (m := mb) (p := .slice o ds.length c) (q := .bool mb) FF.out ((sgn_sum ma mb _ _).2.2 hm2.out hle'.out)
      exact bodyPost_ret (v := .agg #[.slice o ds.length c, .bool mb]) (by simp [results, Try.results50, go_sem, e4, e5]) rfl ⟨_, rfl, r1, r2⟩
end Go.Proofs.Ytdlipponajilbaa
/- What s, negative, cut and span of the reference's whole numbers return. -/
namespace Bg
theorem drop_le (a : List Nat) (k : Nat) (h : k ≤ a.length) : val (a.drop k) ≤ val a := by
  have h1 := val_split a k h
  have h2 : 1 ≤ 65536 ^ k := Nat.pos_of_ne_zero (by simp)
  have h3 := Nat.mul_le_mul_right (val (a.drop k)) h2
  omega
end Bg
namespace Go.Proofs.Ytdlipponajilbaa
open Go.RowKit
theorem neg_sgn (m : Bool) (n : Nat) : -sgn m n = sgn (!m) n := by cases m <;> simp [sgn]
/-- a new block of two cells and what lies behind it -/
theorem new_one (w : World) (x0 x1 : Value) (t : TypeId) (y : Obj) : ((w.alloc (.cells #[x0, x1] t)).alloc y).heap[w.heap.size]? = some (.cells #[x0, x1] t (0, 0)) := by
  rw [Below.heap_alloc _ _ _ (by simp), heap_alloc_new]
set_option maxRecDepth 20000 in
set_option maxHeartbeats 400000 in
theorem negative_any (B : Nat) (ao : Option Addr) (A : List Nat) (ca : Nat) (ma : Bool) (w : World) (hc : A.length ≤ ca) (ra : Rd w ao A) (da : Bg.can A) (na : New B ao ca) :
    Calls Try.prog 55 #[.agg #[.slice ao A.length ca, .bool ma]] w fun e w' => ∃ v, e = .returned v ∧ IsBig B w' v (-sgn ma (Bg.val A)) ∧ Below w.heap.size w w' := by
  have F : Hid (A.length ≤ ca ∧ Rd w ao A ∧ Bg.can A ∧ New B ao ca) := ⟨hc, ra, da, na⟩
  clear hc ra da na
  go_enter Try.func55, Try.ntmps55
  go_wp2
  have HB : Below w.heap.size w ((w.alloc (.cells #[.slice ao A.length ca, .bool ma] 69)).alloc (.cells #[.slice ao A.length ca, .bool !ma] 69)) := ((Below.refl _ _).alloc (Nat.le_refl _) _).alloc (by simp) _
  exact bodyPost_ret (v := .agg #[.slice ao A.length ca, .bool !ma]) (by simp [results, Try.results55, go_sem]) rfl ⟨_, rfl, IsBig.mk F.out.1 (F.out.2.1.below HB (Nat.le_refl _)) F.out.2.2.1 (neg_sgn _ _) F.out.2.2.2, HB⟩
set_option maxRecDepth 20000 in
set_option maxHeartbeats 400000 in
theorem s_any (n : Int) (w : World) (hn0 : -9223372036854775808 ≤ n) (hn1 : n ≤ 9223372036854775807) :
    Calls Try.prog 51 #[.int .i64 n] w fun e w' => ∃ v, e = .returned v ∧ IsBig w.heap.size w' v n ∧ Below w.heap.size w w' := by
  go_enter Try.func51, Try.ntmps51
  go_wp2_with fail
  refine (of_any n _ hn0 hn1).mono ?_
  rintro e w1 ⟨v, rfl, ⟨o, ds, c, m, rfl, h1, h2, h3, h4, h5⟩, hb⟩
  have r0 : w1.heap[w.heap.size]? = some (.cells #[.slice none 0 0, .bool false] 69 (0, 0)) := (hb.block _ (by simp)).trans (heap_alloc_new _ _)
  obtain ⟨r1, r2, r3, r4⟩ := two_cells r0
  have F : Hid (ds.length ≤ c ∧ Rd w1 o ds ∧ Bg.can ds ∧ n = sgn m (Bg.val ds) ∧ New (w.heap.size + 1) o c) := ⟨h1, h2, h3, h4, by simpa using h5⟩
  have HB : Hid (Below w.heap.size w w1) := ((Below.refl _ _).alloc (Nat.le_refl _) _).trans (hb.mono (by simp))
  clear h1 h2 h3 h4 h5 hb r0
  go_wp2
  have hne : ∀ ad, o = some ad → ad.block ≠ w.heap.size := fun ad e => by have := F.out.2.2.2.2.2 ad e; omega
  exact bodyPost_ret (v := .agg #[.slice o ds.length c, .bool m]) (by simp [results, Try.results51, go_sem, r1, r2]) rfl ⟨_, rfl, IsBig.mk F.out.1 ((F.out.2.1.store hne _).store hne _) F.out.2.2.1 F.out.2.2.2.1 (F.out.2.2.2.2.mono (by omega)), (HB.out.setCell (Nat.le_refl _) _).setCell (Nat.le_refl _) _⟩
theorem cl_sgn_far (ma : Bool) (N : Nat) (most : Int) (h0 : 0 ≤ most) (h : most ≤ (N : Int)) : Fx.cl most (sgn ma N) = if ma then -most else most := by
  cases ma
  · simp [sgn]; exact Fx.cl_up h0 h
  · simp [sgn]; exact Fx.cl_dn h0 (by omega)
theorem cl_sgn_in (ma : Bool) (N : Nat) (most : Int) (h : (N : Int) < most) : Fx.cl most (sgn ma N) = sgn ma N := by
  cases ma <;> simp [sgn] <;> exact Fx.cl_in (by omega) (by omega)
theorem sgn_len {m : Bool} {ds : List Nat} {most : Int} (h3 : Bg.can ds) (h4 : most = sgn m (Bg.val ds)) (h0 : 0 ≤ most) (h1 : most ≤ 9223372036854775807) : (ds.length : Int) ≤ 1000 := by
  have hv : Bg.val ds < 65536 ^ 4 := by cases m <;> simp [sgn] at h4 <;> omega
  have := Bg.can_len h3 4 hv
  omega
theorem field_run (x y : Value) (w : World) : Sem.run Try.prog (Instr.field 69 (.agg #[x, y]) 0) w = .ok x w := by kernel_rfl
theorem one_block {w w1 : World} {x0 x1 : Value} {t : TypeId} {n : Nat} (h : Below (w.alloc (.cells #[x0, x1] t)).heap.size ((w.alloc (.cells #[x0, x1] t)).drewN n) w1) :
    w1.cell? ⟨w.heap.size, 0, none⟩ = some x0 ∧ w1.cell? ⟨w.heap.size, 1, none⟩ = some x1 := by
  have b0 : w1.heap[w.heap.size]? = some (.cells #[x0, x1] t (0, 0)) := (h.block _ (by simp)).trans (heap_alloc_new w (.cells #[x0, x1] t))
  exact ⟨(two_cells b0).1, (two_cells b0).2.1⟩
theorem one_below {w w1 : World} {x : Obj} {n : Nat} (h : Below (w.alloc x).heap.size ((w.alloc x).drewN n) w1) : Below w.heap.size w w1 :=
  (below_drewN ((Below.refl _ _).alloc (Nat.le_refl _) _) n).trans (h.mono (by simp))
set_option maxRecDepth 20000 in
set_option maxHeartbeats 2000000 in
theorem rcut_any (ao : Option Addr) (A : List Nat) (ca : Nat) (ma : Bool) (most : Int) (w : World) (hA : (A.length : Int) ≤ 1000) (ra : Rd w ao A) (da : Bg.can A) (h0 : 0 ≤ most) (h1 : most ≤ 9223372036854775807) :
    Calls Try.prog 71 #[.agg #[.slice ao A.length ca, .bool ma], .int .i64 most] w fun e w' => e = .returned (.int .i64 (Fx.cl most (sgn ma (Bg.val A)))) ∧ Below w.heap.size w w' := by
  have ra' : Hid (Rd w ao A) := ra
  have da' : Hid (Bg.can A) := da
  clear ra da
  have hfd := field_run
  go_enter Try.func71, Try.ntmps71
  go_wp2
  go_region_held3 (fun w' => w'.cell? ⟨w.heap.size, 0, none⟩ = some (.slice ao A.length ca) ∧ w'.cell? ⟨w.heap.size, 1, none⟩ = some (.bool ma)) (first | exact ⟨e0, e1⟩ | go_keep)
    (first | (go_at_call 54; refine (of_any most _ (by omega) h1).mono ?_; rintro e w1 ⟨v, rfl, ⟨o, ds, c, m, rfl, t1, t2, t3, t4, t5⟩, t6⟩; obtain ⟨e0, e1⟩ := one_block (n := 1) t6; have FF : Hid (ds.length ≤ c ∧ Rd w1 o ds ∧ Bg.can ds ∧ most = sgn m (Bg.val ds) ∧ Below w.heap.size w w1) := ⟨t1, t2, t3, t4, one_below (n := 1) t6⟩; have hl : (ds.length : Int) ≤ 1000 := sgn_len t3 t4 h0 h1; clear t1 t2 t3 t4 t5 t6) | (go_at_call 73; refine (compare_any ao o A ds ca c w1 (by omega) (by omega) (ra'.out.below FF.out.2.2.2.2 (Nat.le_refl _)) FF.out.2.1 da'.out FF.out.2.2.1).mono ?_; rintro e w2 ⟨r, rfl, hr, n, rfl⟩))
  have hmost : most = ((Bg.val ds : Nat) : Int) := by
    have h4 := FF.out.2.2.2.1
    cases m <;> simp [sgn] at h4 <;> omega
  have HM : Hid (most = ((Bg.val ds : Nat) : Int)) := hmost
  have CM : Hid ((0 ≤ r → Bg.val ds ≤ Bg.val A) ∧ (¬ 0 ≤ r → Bg.val A < Bg.val ds)) := ⟨fun _ => by omega, fun _ => by omega⟩
  clear hr hmost hfd
  by_cases hr0 : 0 ≤ r
  · have hle := CM.out.1 hr0
    have hfar : Hid (Fx.cl most (sgn ma (Bg.val A)) = if ma then -most else most) := cl_sgn_far ma (Bg.val A) most h0 (by have := HM.out; omega)
    clear hle
    cases ma
    · go_wp2
      go_ret
      exact ⟨ret_i64 (by rw [hfar.out]; rfl), below_drewN FF.out.2.2.2.2 n⟩
    · go_wp2
      go_ret
      exact ⟨ret_i64 (by rw [hfar.out]; rfl), below_drewN FF.out.2.2.2.2 n⟩
  · have hlt := CM.out.2 hr0
    have hin : Hid (Fx.cl most (sgn ma (Bg.val A)) = sgn ma (Bg.val A) ∧ ((Bg.val A : Nat) : Int) < most) := ⟨cl_sgn_in ma (Bg.val A) most (by have := HM.out; omega), by have := HM.out; omega⟩
    clear hlt
    go_wp2
    go_loop [5, 6] (fun x i => ∃ (nn j : Int), x = .int .i64 nn ∧ i = .int .i64 j ∧ -1 ≤ j ∧ j < A.length ∧ 0 ≤ nn ∧ nn ≤ 9223372036854775807 ∧ Hid (nn = ((Bg.val (A.drop (j + 1).toNat) : Nat) : Int))) (fun _ i => (intOf i + 1).toNat)
    case atStart =>
      refine ⟨0, (A.length : Int) - 1, rfl, rfl, by omega, by omega, by omega, by omega, ?_⟩
      show _ = _
      rw [show ((A.length : Int) - 1 + 1).toNat = A.length from by omega, Bg.val_cmp_zero]; rfl
    case round =>
      obtain ⟨nn, j, rfl, rfl, hj0, hj1, hn0, hn1, hz⟩ := hrel
      by_cases hj : j < 0
      · have hz2 : Hid (nn = ((Bg.val A : Nat) : Int)) := by
          have := hz.out
          rw [show (j + 1).toNat = 0 from by omega, List.drop_zero] at this
          exact this
        cases ma
        · go_wp2
          go_ret
          exact ⟨ret_i64 (by rw [hin.out.1, hz2.out]; rfl), below_drewN FF.out.2.2.2.2 n⟩
        · go_wp2
          go_ret
          exact ⟨ret_i64 (by rw [hin.out.1, hz2.out]; rfl), below_drewN FF.out.2.2.2.2 n⟩
      · obtain ⟨b, x, g1, g2, g3, hx, x0, x1⟩ := ((ra'.out.below FF.out.2.2.2.2 (Nat.le_refl _)).drew n).at da'.out.1 j.toNat (by omega)
        have hix : ∀ w, Sem.run Try.prog (Instr.indexAt 67 (.slice ao A.length ca) (.int .i64 j)) w = .ok (.pointer (some ⟨b, j.toNat, none⟩)) w := idx_run A.length ca j.toNat j g1.out (by omega) (by omega)
        have hnx : Hid (nn * 65536 + x = ((Bg.val (A.drop j.toNat) : Nat) : Int)) := by
          have h1 := hz.out
          have h2 := hx.out
          rw [show (j + 1).toNat = j.toNat + 1 from by omega] at h1
          show _ = _
          rw [Bg.drop_at A j.toNat (by omega), Bg.val]
          omega
        have hbd : nn * 65536 + x ≤ 9223372036854775807 := by
          have h1 := Bg.drop_le A j.toNat (by omega)
          have h2 := hnx.out
          have h3 := hin.out.2
          omega
        go_wp2
        go_round
        case rel =>
          refine ⟨_, j - 1, rfl, by go_num, by omega, by omega, by omega, by omega, ?_⟩
          show _ = _
          rw [show (j - 1 + 1).toNat = j.toNat from by omega]
          exact hnx.out
        case measure => simp [intOf]; omega
set_option maxRecDepth 20000 in
set_option maxHeartbeats 400000 in
theorem rspan_any (ao : Option Addr) (A : List Nat) (ca : Nat) (ma : Bool) (w : World) (hA : (A.length : Int) ≤ 1000) (ra : Rd w ao A) (da : Bg.can A) :
    Calls Try.prog 49 #[.agg #[.slice ao A.length ca, .bool ma]] w fun e w' => e = .returned (.int .i64 (Fx.cl 4611686018427387904 (sgn ma (Bg.val A)))) ∧ Below w.heap.size w w' := by
  have F : Hid (Rd w ao A ∧ Bg.can A) := ⟨ra, da⟩
  clear ra da
  go_enter Try.func49, Try.ntmps49
  go_wp2_with fail
  have HB : Below w.heap.size w (w.alloc (.cells #[.slice ao A.length ca, .bool ma] 69)) := (Below.refl _ _).alloc (Nat.le_refl _) _
  refine (rcut_any ao A ca ma 4611686018427387904 _ hA (F.out.1.below HB (Nat.le_refl _)) F.out.2 (by decide) (by decide)).mono ?_
  rintro e w1 ⟨rfl, hb⟩
  have HB2 : Hid (Below w.heap.size w w1) := HB.trans (hb.mono (by simp))
  clear HB hb
  go_wp2
  go_ret
  exact ⟨rfl, HB2.out⟩
end Go.Proofs.Ytdlipponajilbaa
/- What down and two of the reference's whole numbers return: a quotient divided down, and a power of two. -/
namespace Go.Proofs.Ytdlipponajilbaa
open Go.RowKit
theorem sgn_down (m : Bool) (A V : Nat) (hV : 0 < V) : sgn m A / (V : Int) = if m ∧ 0 < A % V then sgn m (A / V + 1) else sgn m (A / V) := by
  cases m
  · simp [sgn]
  · simp only [sgn, if_true, true_and]
    rw [Fx.quo_neg A V hV]
    split <;> simp
theorem can_pos {R : List Nat} (h : Bg.can R) : 0 < Bg.val R ↔ 0 < R.length := by
  constructor
  · intro hp
    refine Nat.pos_of_ne_zero fun h0 => ?_
    have : R = [] := List.length_eq_zero_iff.1 h0
    subst this
    simp [Bg.val] at hp
  · intro hp
    have h1 := Bg.can_ge h hp
    have h2 : 0 < 65536 ^ (R.length - 1) := Nat.pos_of_ne_zero (by simp)
    omega
/-- a sum with one digit -/
theorem plus_one (bo : Option Addr) (B : List Nat) (cb : Nat) (d : Nat) (g : Nat) (w : World) (hB : (B.length : Int) ≤ 100000) (rb : Rd w bo B) (db : Bg.dok B) (hd : d < 65536) (rd : Rd w (some ⟨g, 0, none⟩) [d]) :
    Calls Try.prog 72 #[.slice bo B.length cb, .slice (some ⟨g, 0, none⟩) 1 1] w fun e w' => ∃ (o : Option Addr) (ds : List Nat) (c : Nat), e = .returned (.slice o ds.length c) ∧ ds.length ≤ c ∧ Rd w' o ds ∧ Bg.can ds ∧ Bg.val ds = Bg.val B + d ∧ New w.heap.size o c ∧ Below w.heap.size w w' := by
  have := plus_any bo (some ⟨g, 0, none⟩) B [d] cb 1 w hB (by simp) rb rd db (Bg.dok_one d hd)
  rw [Bg.val_one] at this
  exact this
theorem cells_kept {w w' : World} (h : Below w.heap.size w w') {b o : Nat} {v : Value} (hb : b < w.heap.size) (hc : w.cell? ⟨b, o, none⟩ = some v) : w'.cell? ⟨b, o, none⟩ = some v := (h.cell (p := ⟨b, o, none⟩) hb).trans hc
theorem free_kept {w w' : World} (h : Below w.heap.size w w') {b o : Nat} (hb : b < w.heap.size) (hc : w.frozen? ⟨b, o, none⟩ = false) : w'.frozen? ⟨b, o, none⟩ = false := (h.frozen (p := ⟨b, o, none⟩) hb).trans hc
set_option maxRecDepth 20000 in
set_option maxHeartbeats 2000000 in
theorem down_any (ao bo : Option Addr) (A B : List Nat) (ca cb : Nat) (ma mb : Bool) (w : World) (hA : (A.length : Int) ≤ 1000) (hB : (B.length : Int) ≤ 1000) (ra : Rd w ao A) (rb : Rd w bo B) (da : Bg.can A) (db : Bg.can B) (hV : 0 < Bg.val B) :
    Calls Try.prog 52 #[.agg #[.slice ao A.length ca, .bool ma], .agg #[.slice bo B.length cb, .bool mb]] w fun e w' => ∃ v, e = .returned v ∧ IsBig w.heap.size w' v (sgn ma (Bg.val A) / ((Bg.val B : Nat) : Int)) ∧ Below w.heap.size w w' := by
  have ra' : Hid (Rd w ao A) := ra
  have rb' : Hid (Rd w bo B) := rb
  have da' : Hid (Bg.can A) := da
  have db' : Hid (Bg.can B) := db
  have hV' : Hid (0 < Bg.val B) := hV
  clear ra rb da db hV
  go_enter Try.func52, Try.ntmps52
  go_wp2_with fail
  refine (divide_any ao bo A B ca cb _ (by omega) (by omega) (rd3 ra'.out _ _ _ 0) (rd3 rb'.out _ _ _ 0) da'.out.1 db'.out.1 hV'.out).mono ?_
  rintro e w1 ⟨qo, ro, Q, R, qc, rc, rfl, t1, t2, t3, t4, t5, t6, t7, t8, t9, t10⟩
  obtain ⟨e0, e1, e2, e3, e4, e5, e6, e7⟩ := three (n := 0) t10
  have FF := keepF (n := 0) t1 t3 t5 t7 t9 t10
  have hw1 : w.heap.size + 3 ≤ w1.heap.size := by have := t10.size; simp at this; omega
  have hQl : Q.length ≤ 2000 := by
    have h1 : Bg.val Q < 65536 ^ A.length := by rw [t7]; exact Nat.lt_of_le_of_lt (Nat.div_le_self _ _) (Bg.val_lt A da'.out.1)
    have := Bg.can_len t5 _ h1
    omega
  have hQl' : (Q.length : Int) ≤ 2000 := by omega
  have hR : Hid ((0 < R.length ↔ 0 < Bg.val A % Bg.val B)) := by show _ ↔ _; rw [← can_pos t6, t8]
  clear t1 t2 t3 t4 t5 t6 t7 t8 t9 t10 hQl
  by_cases hm : ma = true ∧ 0 < (R.length : Int)
  · obtain ⟨rfl, hRp⟩ := hm
    have hfin : Hid (sgn true (Bg.val A) / ((Bg.val B : Nat) : Int) = sgn true (Bg.val A / Bg.val B + 1)) := by
      show _ = _
      rw [sgn_down _ _ _ hV'.out, if_pos ⟨rfl, hR.out.1 (by omega)⟩]
    go_wp2_with fail
    have RL := rd_lit w1 1
    have BA : Below w1.heap.size w1 (w1.alloc (.cells #[.int .i64 1] 3)) := (Below.refl _ _).alloc (Nat.le_refl _) _
    refine (plus_one qo Q qc 1 w1.heap.size _ (by omega) (FF.out.2.1.below BA (Nat.le_refl _)) FF.out.2.2.1.1 (by decide) RL).mono ?_
    rintro e w2 ⟨o, ds, c, rfl, t1, t2, t3, t4, t5, t6⟩
    have BB : Below w1.heap.size w1 w2 := BA.trans (t6.mono (by simp))
    have f1 := cells_kept BB (by omega) e1
    have f4 := cells_kept BB (by omega) e4
    have f5 := cells_kept BB (by omega) e5
    have f6 := free_kept BB (by omega) e6
    have f7 := free_kept BB (by omega) e7
    have F2 : Hid (ds.length ≤ c ∧ Rd w2 o ds ∧ Bg.can ds ∧ Bg.val ds = Bg.val A / Bg.val B + 1 ∧ New (w.heap.size + 3) o c ∧ Below w.heap.size w w2) := ⟨t1, t2, t3, by rw [t4, FF.out.2.2.2.1], t5.mono (by simp; omega), FF.out.2.2.2.2.2.trans (BB.mono (by omega))⟩
    clear RL BA BB t1 t2 t3 t4 t5 t6 e0 e1 e2 e3 e4 e5 e6 e7
    go_wp2
    obtain ⟨r1, r2⟩ := big_end (m := true) (p := .slice o ds.length c) (q := .bool true) F2.out hfin.out
    exact bodyPost_ret (v := .agg #[.slice o ds.length c, .bool true]) (by simp [results, Try.results52, go_sem, f4, f5]) rfl ⟨_, rfl, r1, r2⟩
  · have hfin : Hid (sgn ma (Bg.val A) / ((Bg.val B : Nat) : Int) = sgn ma (Bg.val A / Bg.val B)) := by
      show _ = _
      rw [sgn_down _ _ _ hV'.out, if_neg (fun h => hm ⟨h.1, by have := hR.out.2 h.2; omega⟩)]
    cases ma
    · clear hm
      go_wp2
      obtain ⟨r1, r2⟩ := big_end (m := false) (p := .slice qo Q.length qc) (q := .bool false) FF.out hfin.out
      exact bodyPost_ret (v := .agg #[.slice qo Q.length qc, .bool false]) (by simp [results, Try.results52, go_sem, e4, e5]) rfl ⟨_, rfl, r1, r2⟩
    · have hR0 : ¬ 0 < (R.length : Int) := fun h => hm ⟨rfl, h⟩
      clear hm
      go_wp2
      obtain ⟨r1, r2⟩ := big_end (m := true) (p := .slice qo Q.length qc) (q := .bool true) FF.out hfin.out
      exact bodyPost_ret (v := .agg #[.slice qo Q.length qc, .bool true]) (by simp [results, Try.results52, go_sem, e4, e5]) rfl ⟨_, rfl, r1, r2⟩
end Go.Proofs.Ytdlipponajilbaa
/- What Add, Sub, Neg, Abs and Mean of the reference return: the sum, the difference, the negative, the size, half of the sum, divided down, each cut at 2^62 and its negative. -/
namespace Go.Proofs.Ytdlipponajilbaa
open Go.RowKit
/-- a number of so many digits at most -/
def Sm (k : Nat) (z : Int) : Prop := z.natAbs < 65536 ^ k
theorem Sm.mono {j k : Nat} {z : Int} (h : Sm j z) (hk : j ≤ k) : Sm k z := Nat.lt_of_lt_of_le h (Nat.pow_le_pow_right (by decide) hk)
theorem Sm.add {k : Nat} {x y : Int} (hx : Sm k x) (hy : Sm k y) : Sm (k + 1) (x + y) := by
  unfold Sm at *
  rw [Nat.pow_succ]
  have := Int.natAbs_add_le x y
  omega
theorem Sm.neg {k : Nat} {x : Int} (hx : Sm k x) : Sm k (-x) := by unfold Sm at *; rwa [Int.natAbs_neg]
theorem Sm.mul {j k : Nat} {x y : Int} (hx : Sm j x) (hy : Sm k y) : Sm (j + k) (x * y) := by
  unfold Sm at *
  rw [Int.natAbs_mul, Nat.pow_add]
  exact Nat.mul_lt_mul'' hx hy
theorem Sm.div {k : Nat} {x : Int} (hx : Sm k x) (V : Int) : Sm k (x / V) := by
  unfold Sm at *
  refine Nat.lt_of_le_of_lt ?_ hx
  exact Int.natAbs_ediv_le_natAbs x V
theorem Sm.word {n : Int} (h0 : -9223372036854775808 ≤ n) (h1 : n ≤ 9223372036854775807) : Sm 4 n := by
  show n.natAbs < 65536 ^ 4
  have : (65536 : Nat) ^ 4 = 18446744073709551616 := by decide
  omega
theorem natAbs_sgn (m : Bool) (n : Nat) : (sgn m n).natAbs = n := by cases m <;> simp [sgn]
theorem sm_len {k : Nat} {m : Bool} {ds : List Nat} {z : Int} (hc : Bg.can ds) (hz : z = sgn m (Bg.val ds)) (hs : Sm k z) : ds.length ≤ k := by
  refine Bg.can_len hc k ?_
  unfold Sm at hs
  rw [hz, natAbs_sgn] at hs
  exact hs
theorem sum_big {C D k : Nat} {va vb : Value} {x y : Int} {w : World} (hx : IsBig C w va x) (hy : IsBig D w vb y) (sx : Sm k x) (sy : Sm k y) (hk : k ≤ 1000) :
    Calls Try.prog 50 #[va, vb] w fun e w' => ∃ v, e = .returned v ∧ IsBig w.heap.size w' v (x + y) ∧ Below w.heap.size w w' := by
  obtain ⟨ao, A, ca, ma, rfl, a1, a2, a3, rfl, a5⟩ := hx
  obtain ⟨bo, B, cb, mb, rfl, b1, b2, b3, rfl, b5⟩ := hy
  have l1 := sm_len a3 rfl sx
  have l2 := sm_len b3 rfl sy
  exact sum_any ao bo A B ca cb ma mb w (by omega) (by omega) a2 b2 a3 b3
theorem sgn_mul (ma mb : Bool) (a b : Nat) : sgn (!(ma == mb)) (a * b) = sgn ma a * sgn mb b := by
  cases ma <;> cases mb <;> simp [sgn, Int.neg_mul, Int.mul_neg]
theorem product_big {C D k : Nat} {va vb : Value} {x y : Int} {w : World} (hx : IsBig C w va x) (hy : IsBig D w vb y) (sx : Sm k x) (sy : Sm k y) (hk : k ≤ 1000) :
    Calls Try.prog 53 #[va, vb] w fun e w' => ∃ v, e = .returned v ∧ IsBig w.heap.size w' v (x * y) ∧ Below w.heap.size w w' := by
  obtain ⟨ao, A, ca, ma, rfl, a1, a2, a3, rfl, a5⟩ := hx
  obtain ⟨bo, B, cb, mb, rfl, b1, b2, b3, rfl, b5⟩ := hy
  have l1 := sm_len a3 rfl sx
  have l2 := sm_len b3 rfl sy
  rw [← sgn_mul]
  exact product_any ao bo A B ca cb ma mb w (by omega) (by omega) a2 b2 a3 b3
theorem down_big {C D k : Nat} {va vb : Value} {x y : Int} {w : World} (hx : IsBig C w va x) (hy : IsBig D w vb y) (sx : Sm k x) (sy : Sm k y) (hk : k ≤ 1000) (hp : 0 < y) :
    Calls Try.prog 52 #[va, vb] w fun e w' => ∃ v, e = .returned v ∧ IsBig w.heap.size w' v (x / y) ∧ Below w.heap.size w w' := by
  obtain ⟨ao, A, ca, ma, rfl, a1, a2, a3, rfl, a5⟩ := hx
  obtain ⟨bo, B, cb, mb, rfl, b1, b2, b3, hyv, b5⟩ := hy
  have l1 := sm_len a3 rfl sx
  have l2 := sm_len b3 hyv sy
  have hv : y = ((Bg.val B : Nat) : Int) := by cases mb <;> simp [sgn] at hyv <;> omega
  rw [hv]
  exact down_any ao bo A B ca cb ma mb w (by omega) (by omega) a2 b2 a3 b3 (by omega)
theorem negative_big {C : Nat} {va : Value} {x : Int} {w : World} (hx : IsBig C w va x) :
    Calls Try.prog 55 #[va] w fun e w' => ∃ v, e = .returned v ∧ IsBig C w' v (-x) ∧ Below w.heap.size w w' := by
  obtain ⟨ao, A, ca, ma, rfl, a1, a2, a3, rfl, a5⟩ := hx
  exact negative_any C ao A ca ma w a1 a2 a3 a5
theorem span_big {C k : Nat} {va : Value} {x : Int} {w : World} (hx : IsBig C w va x) (sx : Sm k x) (hk : k ≤ 1000) :
    Calls Try.prog 49 #[va] w fun e w' => e = .returned (.int .i64 (Fx.cl 4611686018427387904 x)) ∧ Below w.heap.size w w' := by
  obtain ⟨ao, A, ca, ma, rfl, a1, a2, a3, rfl, a5⟩ := hx
  have l1 := sm_len a3 rfl sx
  exact rspan_any ao A ca ma w (by omega) a2 a3
theorem cut_big {C k : Nat} {va : Value} {x most : Int} {w : World} (hx : IsBig C w va x) (sx : Sm k x) (hk : k ≤ 1000) (h0 : 0 ≤ most) (h1 : most ≤ 9223372036854775807) :
    Calls Try.prog 71 #[va, .int .i64 most] w fun e w' => e = .returned (.int .i64 (Fx.cl most x)) ∧ Below w.heap.size w w' := by
  obtain ⟨ao, A, ca, ma, rfl, a1, a2, a3, rfl, a5⟩ := hx
  have l1 := sm_len a3 rfl sx
  exact rcut_any ao A ca ma most w (by omega) a2 a3 h0 h1
theorem Below.then {a b c : World} (h : Below a.heap.size a b) (k : Below b.heap.size b c) : Below a.heap.size a c := h.trans (k.mono h.size)
set_option maxRecDepth 20000 in
set_option maxHeartbeats 1000000 in
theorem radd_any (a b : Int) (w : World) (ha0 : -9223372036854775808 ≤ a) (ha1 : a ≤ 9223372036854775807) (hb0 : -9223372036854775808 ≤ b) (hb1 : b ≤ 9223372036854775807) :
    Calls Try.prog 28 #[.int .i64 a, .int .i64 b] w fun e w' => e = .returned (.int .i64 (Fx.cl 4611686018427387904 (a + b))) ∧ Below w.heap.size w w' := by
  go_enter Try.func28, Try.ntmps28
  go_wp2_with fail
  refine (s_any a _ ha0 ha1).mono ?_
  rintro e w1 ⟨v1, rfl, i1, k1⟩
  have I1 : Hid (IsBig w.heap.size w1 v1 (a)) := i1
  have K1 : Hid (Below w.heap.size w w1) := k1
  clear i1 k1
  go_wp2_with fail
  refine (s_any b _ hb0 hb1).mono ?_
  rintro e w2 ⟨v2, rfl, i2, k2⟩
  have I2 : Hid (IsBig w1.heap.size w2 v2 (b)) := i2
  have I1_2 : Hid (IsBig w.heap.size w2 v1 (a)) := I1.out.below k2 (Nat.le_refl _)
  have K2 : Hid (Below w.heap.size w w2) := Below.then K1.out k2
  clear i2 k2 I1 K1
  go_wp2_with fail
  refine (sum_big I1_2.out I2.out (Sm.word ha0 ha1) (Sm.word hb0 hb1) (by decide)).mono ?_
  rintro e w3 ⟨v3, rfl, i3, k3⟩
  have I3 : Hid (IsBig w2.heap.size w3 v3 (a + b)) := i3
  have I1_2_3 : Hid (IsBig w.heap.size w3 v1 (a)) := I1_2.out.below k3 (Nat.le_refl _)
  have I2_3 : Hid (IsBig w1.heap.size w3 v2 (b)) := I2.out.below k3 (Nat.le_refl _)
  have K3 : Hid (Below w.heap.size w w3) := Below.then K2.out k3
  clear i3 k3 I1_2 I2 K2
  go_wp2_with fail
  refine (span_big I3.out ((Sm.word ha0 ha1).add (Sm.word hb0 hb1)) (by decide)).mono ?_
  rintro e w4 ⟨rfl, k4⟩
  have K4 : Hid (Below w.heap.size w w4) := Below.then K3.out k4
  clear k4 K3
  go_wp2
  go_ret
  exact ⟨rfl, K4.out⟩
set_option maxRecDepth 20000 in
set_option maxHeartbeats 1000000 in
theorem rsub_any (a b : Int) (w : World) (ha0 : -9223372036854775808 ≤ a) (ha1 : a ≤ 9223372036854775807) (hb0 : -9223372036854775808 ≤ b) (hb1 : b ≤ 9223372036854775807) :
    Calls Try.prog 30 #[.int .i64 a, .int .i64 b] w fun e w' => e = .returned (.int .i64 (Fx.cl 4611686018427387904 (a + -b))) ∧ Below w.heap.size w w' := by
  go_enter Try.func30, Try.ntmps30
  go_wp2_with fail
  refine (s_any a _ ha0 ha1).mono ?_
  rintro e w1 ⟨v1, rfl, i1, k1⟩
  have I1 : Hid (IsBig w.heap.size w1 v1 (a)) := i1
  have K1 : Hid (Below w.heap.size w w1) := k1
  clear i1 k1
  go_wp2_with fail
  refine (s_any b _ hb0 hb1).mono ?_
  rintro e w2 ⟨v2, rfl, i2, k2⟩
  have I2 : Hid (IsBig w1.heap.size w2 v2 (b)) := i2
  have I1_2 : Hid (IsBig w.heap.size w2 v1 (a)) := I1.out.below k2 (Nat.le_refl _)
  have K2 : Hid (Below w.heap.size w w2) := Below.then K1.out k2
  clear i2 k2 I1 K1
  go_wp2_with fail
  refine (negative_big I2.out).mono ?_
  rintro e w3 ⟨v3, rfl, i3, k3⟩
  have I3 : Hid (IsBig w1.heap.size w3 v3 (-b)) := i3
  have I1_2_3 : Hid (IsBig w.heap.size w3 v1 (a)) := I1_2.out.below k3 (Nat.le_refl _)
  have I2_3 : Hid (IsBig w1.heap.size w3 v2 (b)) := I2.out.below k3 (Nat.le_refl _)
  have K3 : Hid (Below w.heap.size w w3) := Below.then K2.out k3
  clear i3 k3 I1_2 I2 K2
  go_wp2_with fail
  refine (sum_big I1_2_3.out I3.out (Sm.word ha0 ha1) (Sm.neg (Sm.word hb0 hb1)) (by decide)).mono ?_
  rintro e w4 ⟨v4, rfl, i4, k4⟩
  have I4 : Hid (IsBig w3.heap.size w4 v4 (a + -b)) := i4
  have I1_2_3_4 : Hid (IsBig w.heap.size w4 v1 (a)) := I1_2_3.out.below k4 (Nat.le_refl _)
  have I2_3_4 : Hid (IsBig w1.heap.size w4 v2 (b)) := I2_3.out.below k4 (Nat.le_refl _)
  have I3_4 : Hid (IsBig w1.heap.size w4 v3 (-b)) := I3.out.below k4 (Nat.le_refl _)
  have K4 : Hid (Below w.heap.size w w4) := Below.then K3.out k4
  clear i4 k4 I1_2_3 I2_3 I3 K3
  go_wp2_with fail
  refine (span_big I4.out ((Sm.word ha0 ha1).add (Sm.neg (Sm.word hb0 hb1))) (by decide)).mono ?_
  rintro e w5 ⟨rfl, k5⟩
  have K5 : Hid (Below w.heap.size w w5) := Below.then K4.out k5
  clear k5 K4
  go_wp2
  go_ret
  exact ⟨rfl, K5.out⟩
end Go.Proofs.Ytdlipponajilbaa
/- What Abs and Clamp of the reference return, and Abs of package fixed. -/
namespace Go.Proofs.Ytdlipponajilbaa
open Go.RowKit
set_option maxRecDepth 20000 in
set_option maxHeartbeats 400000 in
theorem abs_any (a : Int) (w : World) (ha0 : -9223372036854775808 ≤ a) (ha1 : a ≤ 9223372036854775807) :
    Calls Try.prog 83 #[.int .i64 a] w fun e w' => e = .returned (.int .i64 (Fx.cl 4611686018427387904 (a.natAbs : Int))) ∧ w' = w := by
  by_cases h : a < 0
  · go_enter Try.func83, Try.ntmps83
    go_wp2_with (go_at_call 88; refine (neg_any _ _ (by omega) (by omega)).mono ?_; rintro e w' ⟨rfl, rfl⟩)
    go_ret
    exact ⟨ret_i64 (by rw [show ((a.natAbs : Nat) : Int) = -a from by omega]), rfl⟩
  · go_enter Try.func83, Try.ntmps83
    go_wp2_with (go_at_call 45; refine (bound_any _ _ _ (by omega) (by omega)).mono ?_; rintro e w' ⟨rfl, rfl⟩)
    go_ret
    exact ⟨ret_i64 (by rw [show ((a.natAbs : Nat) : Int) = a from by omega]), rfl⟩
theorem one_size {w w1 : World} {x : Obj} {n : Nat} (h : Below (w.alloc x).heap.size ((w.alloc x).drewN n) w1) : w.heap.size + 1 ≤ w1.heap.size := by
  have h1 := h.size
  have h2 : ((w.alloc x).drewN n).heap.size = w.heap.size + 1 := by simp [World.drewN]
  omega
theorem one_free {w w1 : World} {x0 x1 : Value} {t : TypeId} {n : Nat} (h : Below (w.alloc (.cells #[x0, x1] t)).heap.size ((w.alloc (.cells #[x0, x1] t)).drewN n) w1) : w1.frozen? ⟨w.heap.size, 0, none⟩ = false := by
  have b0 : w1.heap[w.heap.size]? = some (.cells #[x0, x1] t (0, 0)) := (h.block _ (by simp)).trans (heap_alloc_new w (.cells #[x0, x1] t))
  exact (two_cells b0).2.2.1
theorem cl_cl (m a : Int) (h : 0 ≤ m) : Fx.cl 4611686018427387904 (Fx.cl m a) = Fx.cl (min m 4611686018427387904) a := by unfold Fx.cl; omega
end Go.Proofs.Ytdlipponajilbaa
/- What meanSquare and RMS of package fixed return, for a slice of at most 65536 numbers: the mean of the squares in two words; the root of it. -/
namespace Sq
/-- the square of a number that is saturated -/
def sq (z : Int) : Nat := (Fx.cl 4611686018427387904 z).natAbs * (Fx.cl 4611686018427387904 z).natAbs
def sum : List Int → Nat
  | [] => 0
  | z :: r => sq z + sum r
theorem sum_append (a b : List Int) : sum (a ++ b) = sum a + sum b := by
  induction a with
  | nil => simp [sum]
  | cons z r ih => rw [List.cons_append, sum, sum, ih]; omega
theorem take_succ (a : List Int) (k : Nat) (h : k < a.length) : sum (a.take (k + 1)) = sum (a.take k) + sq (a.getD k 0) := by
  rw [List.take_succ_eq_append_getElem h, sum_append, List.getD_eq_getElem?_getD, List.getElem?_eq_getElem h]
  simp [sum]
theorem sq_le (z : Int) : sq z ≤ 21267647932558653966460912964485513216 := by
  have h := Fx.cl_bd (m := 4611686018427387904) (by decide) z
  have h1 : (Fx.cl 4611686018427387904 z).natAbs ≤ 4611686018427387904 := by omega
  exact Nat.mul_le_mul h1 h1
theorem sum_le (a : List Int) : sum a ≤ a.length * 21267647932558653966460912964485513216 := by
  induction a with
  | nil => simp [sum]
  | cons z r ih =>
    have := sq_le z
    rw [sum, List.length_cons]
    omega
/-- a number in two parts, divided in two steps -/
theorem stepsK (W L n K : Nat) (hn : 0 < n) (hL : L < K) : ((W * K + L) / n) / K = W / n ∧ ((W * K + L) / n) % K = (W % n * K + L) / n := by
  have hd := Nat.div_add_mod W n
  have hm := Nat.mod_lt W hn
  generalize W / n = q at *
  generalize W % n = r at *
  have hK : 0 < K := by omega
  have e : W * K + L = r * K + L + n * (q * K) := by
    rw [← hd, Nat.add_mul, Nat.mul_assoc]; omega
  have hl : (r * K + L) / n < K := by
    rw [Nat.div_lt_iff_lt_mul hn]
    have := Nat.mul_le_mul_right K (show r + 1 ≤ n from hm)
    rw [Nat.add_mul, Nat.one_mul] at this
    rw [Nat.mul_comm K n]
    omega
  rw [e, Nat.add_mul_div_left _ _ hn]
  generalize (r * K + L) / n = x at *
  rw [Nat.add_mul_div_right _ _ hK, Nat.add_mul_mod_self_right, Nat.div_eq_of_lt hl, Nat.mod_eq_of_lt hl, Nat.zero_add]
  exact ⟨rfl, rfl⟩
theorem two_steps (T H L n : Nat) (hT : T < n) (hL : L < 18446744073709551616) :
    (((T * 18446744073709551616 + H) * 18446744073709551616 + L) / n) / 18446744073709551616 = (T * 18446744073709551616 + H) / n ∧
    (((T * 18446744073709551616 + H) * 18446744073709551616 + L) / n) % 18446744073709551616 = ((T * 18446744073709551616 + H) % n * 18446744073709551616 + L) / n :=
  stepsK _ _ _ _ (Nat.lt_of_le_of_lt (Nat.zero_le _) hT) hL
end Sq
namespace Go.Proofs.Ytdlipponajilbaa
open Go.RowKit
theorem add64_run (x y c : Nat) (hc : c ≤ 1) (w : World) :
    (callFunc 84 #[.int .u64 x, .int .u64 y, .int .u64 c]).run Try.prog w =
      .ok (.value (.tuple #[.int .u64 (((x + y + c) % 18446744073709551616 : Nat) : Int), .int .u64 (((x + y + c) / 18446744073709551616 : Nat) : Int)])) w := by
  rw [run_callFunc_extern Try.func84 (by kernel_rfl) (by kernel_rfl) (by kernel_rfl) (e := add64Entry) (by kernel_rfl), run_add64 x y c (by omega) (by omega) (by omega) (by omega)]
  simp only [Result.andThen]
  congr 5 <;> omega
theorem add64_int (x y c s q : Int) (h0 : 0 ≤ x) (h1 : 0 ≤ y) (h2 : 0 ≤ c) (hc : c ≤ 1) (hs : s = (x + y + c) % 18446744073709551616) (hq : q = (x + y + c) / 18446744073709551616) (w : World) :
    (callFunc 84 #[.int .u64 x, .int .u64 y, .int .u64 c]).run Try.prog w = .ok (.value (.tuple #[.int .u64 s, .int .u64 q])) w := by
  obtain ⟨X, rfl⟩ := Int.eq_ofNat_of_zero_le h0
  obtain ⟨Y, rfl⟩ := Int.eq_ofNat_of_zero_le h1
  obtain ⟨C, rfl⟩ := Int.eq_ofNat_of_zero_le h2
  rw [add64_run X Y C (by omega) w, hs, hq]
  congr 5 <;> omega
/-- a slice of numbers at an address reads as these -/
def Rs (w : World) (ao : Option Addr) (zs : List Int) : Prop := ∀ k, k < zs.length → ∃ ad, ao = some ad ∧ ad.block < w.heap.size ∧ w.cell? (ad.add k) = some (.int .i64 (zs.getD k 0))
theorem add_block (ad : Addr) (k : Nat) : (ad.add k).block = ad.block := by unfold Addr.add; split <;> rfl
theorem Rs.below {B : Nat} {w w' : World} {ao : Option Addr} {zs : List Int} (h : Rs w ao zs) (hb : Below B w w') (hB : w.heap.size ≤ B) : Rs w' ao zs := fun k hk => by
  obtain ⟨ad, h1, h2, h3⟩ := h k hk
  exact ⟨ad, h1, Nat.lt_of_lt_of_le h2 hb.size, (hb.cell (p := ad.add k) (by rw [add_block]; omega)).trans h3⟩
theorem Rs.take {w : World} {ao : Option Addr} {zs : List Int} (h : Rs w ao zs) (m : Nat) : Rs w ao (zs.take m) := fun k hk => by
  rw [List.length_take] at hk
  obtain ⟨ad, h1, h2, h3⟩ := h k (by omega)
  refine ⟨ad, h1, h2, ?_⟩
  rw [List.getD_eq_getElem?_getD, List.getElem?_take_of_lt (by omega), ← List.getD_eq_getElem?_getD]
  exact h3
def okz (zs : List Int) : Prop := ∀ z ∈ zs, -9223372036854775808 ≤ z ∧ z ≤ 9223372036854775807
theorem okz_at {zs : List Int} (h : okz zs) (k : Nat) : -9223372036854775808 ≤ zs.getD k 0 ∧ zs.getD k 0 ≤ 9223372036854775807 := by
  by_cases hk : k < zs.length
  · rw [List.getD_eq_getElem?_getD, List.getElem?_eq_getElem hk]; exact h _ (List.getElem_mem hk)
  · rw [List.getD_eq_getElem?_getD, List.getElem?_eq_none (by omega)]; simp
theorem okz_take {zs : List Int} (h : okz zs) (m : Nat) : okz (zs.take m) := fun z hz => h z (List.mem_of_mem_take hz)
theorem Rs.at {w : World} {ao : Option Addr} {zs : List Int} (h : Rs w ao zs) (hd : okz zs) (k : Nat) (hk : k < zs.length) :
    ∃ (ad : Addr) (x : Int), Hid (ao = some ad) ∧ w.cell? (ad.add k) = some (.int .i64 x) ∧ Hid (x = zs.getD k 0) ∧ -9223372036854775808 ≤ x ∧ x ≤ 9223372036854775807 := by
  obtain ⟨ad, h1, h2, h3⟩ := h k hk
  obtain ⟨b1, b2⟩ := okz_at hd k
  exact ⟨ad, _, h1, h3, rfl, b1, b2⟩
theorem idx_run2 {ao : Option Addr} {ad : Addr} (n cap k : Nat) (i : Int) (h : ao = some ad) (hi : i = (k : Int)) (hk : (k : Int) < n) (w : World) : Sem.run Try.prog (Instr.indexAt 64 (.slice ao n cap) (.int .i64 i)) w = .ok (.pointer (some (ad.add k))) w := by
  subst h hi
  have u46 := Try.underlying64
  have u3 := Try.underlying25
  have c3 : Try.prog.cellsOf 25 = 1 := by kernel_rfl
  have h0 : (0 : Int) ≤ k := Int.natCast_nonneg k
  go_simp
set_option maxRecDepth 20000 in
set_option maxHeartbeats 2000000 in
theorem meanSquare_any (ao : Option Addr) (zs : List Int) (cap : Nat) (w : World) (h0 : 0 < (zs.length : Int)) (h1 : (zs.length : Int) ≤ 64) (ra : Rs w ao zs) (da : okz zs) :
    Calls Try.prog 69 #[.slice ao zs.length cap] w fun e w' => ∃ M : Nat, e = .returned (.agg #[.int .u64 ((M / 18446744073709551616 : Nat) : Int), .int .u64 ((M % 18446744073709551616 : Nat) : Int)]) ∧ M = Sq.sum zs / zs.length ∧ Below w.heap.size w w' := by
  have ra' : Hid (Rs w ao zs) := ra
  have da' : Hid (okz zs) := da
  clear ra da
  go_enter Try.func69, Try.ntmps69
  go_wp2
  go_loop [3, 4, 5, 11, 19] (fun t h l c i => ∃ (k : Nat) (tt hh ll : Int), t = .int .u64 tt ∧ h = .int .u64 hh ∧ l = .int .u64 ll ∧ i = .int .i64 (k : Int) ∧ (k : Int) ≤ zs.length ∧ 0 ≤ tt ∧ tt ≤ (k : Int) ∧ 0 ≤ hh ∧ hh < 18446744073709551616 ∧ 0 ≤ ll ∧ ll < 18446744073709551616 ∧ Hid (((Sq.sum (zs.take k) : Nat) : Int) = tt * 340282366920938463463374607431768211456 + hh * 18446744073709551616 + ll)) (fun _ _ _ _ i => zs.length - (intOf i).toNat)
  case atStart => exact ⟨0, 0, 0, 0, rfl, rfl, rfl, rfl, by omega, by omega, by omega, by omega, by omega, by omega, by omega, by simp [Sq.sum, Hid]⟩
  case round =>
    obtain ⟨k, tt, hh, ll, rfl, rfl, rfl, rfl, hk, t0, t1, hh0, hh1, l0, l1, hS⟩ := hrel
    by_cases hlt : (k : Int) < zs.length
    · obtain ⟨ad, x, g1, g2, hx, x0, x1⟩ := (ra'.out.below ((Below.refl w.heap.size w).alloc (Nat.le_refl _) (.cells #[.int .u64 0, .int .u64 0] 87)) (Nat.le_refl _)).at da'.out k (by omega)
      have hix : ∀ w, Sem.run Try.prog (Instr.indexAt 64 (.slice ao zs.length cap) (.int .i64 (k : Int))) w = .ok (.pointer (some (ad.add k))) w := idx_run2 zs.length cap k k g1.out rfl (by omega)
      go_wp2_with fail
      refine (abs_any x _ x0 x1).mono ?_
      rintro e v1 ⟨rfl, hv⟩
      rw [hv]; clear hv
      obtain ⟨D, hD⟩ : ∃ D : Nat, D = (Fx.cl 4611686018427387904 x).natAbs := ⟨_, rfl⟩
      obtain ⟨di, hdi⟩ : ∃ di : Int, di = Fx.cl 4611686018427387904 (x.natAbs : Int) := ⟨_, rfl⟩
      rw [← hdi]
      have hDD : di = (D : Int) := by rw [hdi, hD]; unfold Fx.cl; omega
      have di0 : 0 ≤ di := by omega
      have di1 : di ≤ 4611686018427387904 := by rw [hdi]; exact (Fx.cl_bd (by decide) _).2
      have HD : Hid (di = (D : Int) ∧ D * D = Sq.sq x) := ⟨hDD, by rw [hD]; rfl⟩
      clear hD hdi hDD g2
      go_wp2_with fail
      refine (mul64_int di di D D HD.out.1 HD.out.1 _ (by have := HD.out.1; omega) (by have := HD.out.1; omega)).mono ?_
      rintro e v1 ⟨rfl, hv⟩
      rw [hv]; clear hv
      obtain ⟨th, hth, th0⟩ := nat_int (D * D / 18446744073709551616)
      obtain ⟨tl, htl, tl0⟩ := nat_int (D * D % 18446744073709551616)
      rw [← hth, ← htl]
      have tl1 : tl < 18446744073709551616 := by omega
      have hDb : D * D ≤ 21267647932558653966460912964485513216 := by rw [HD.out.2]; exact Sq.sq_le x
      have th1 : th ≤ 1152921504606846976 := by omega
      have HT : Hid (th = ((D * D / 18446744073709551616 : Nat) : Int) ∧ tl = ((D * D % 18446744073709551616 : Nat) : Int)) := ⟨hth, htl⟩
      clear hth htl hDb
      obtain ⟨s1, hs1⟩ : ∃ s1 : Int, s1 = (ll + tl + 0) % 18446744073709551616 := ⟨_, rfl⟩
      obtain ⟨q1, hq1⟩ : ∃ q1 : Int, q1 = (ll + tl + 0) / 18446744073709551616 := ⟨_, rfl⟩
      have q10 : 0 ≤ q1 := by omega
      have q11 : q1 ≤ 1 := by omega
      obtain ⟨s2, hs2⟩ : ∃ s2 : Int, s2 = (hh + th + q1) % 18446744073709551616 := ⟨_, rfl⟩
      obtain ⟨q2, hq2⟩ : ∃ q2 : Int, q2 = (hh + th + q1) / 18446744073709551616 := ⟨_, rfl⟩
      have q20 : 0 ≤ q2 := by omega
      have q21 : q2 ≤ 1 := by omega
      have s10 : 0 ≤ s1 := by omega
      have s11 : s1 < 18446744073709551616 := by omega
      have s20 : 0 ≤ s2 := by omega
      have s21 : s2 < 18446744073709551616 := by omega
      have ad1 : ∀ w, (callFunc 84 #[.int .u64 ll, .int .u64 tl, .int .u64 0]).run Try.prog w = .ok (.value (.tuple #[.int .u64 s1, .int .u64 q1])) w := add64_int ll tl 0 s1 q1 l0 tl0 (by decide) (by decide) hs1 hq1
      have ad2 : ∀ w, (callFunc 84 #[.int .u64 hh, .int .u64 th, .int .u64 q1]).run Try.prog w = .ok (.value (.tuple #[.int .u64 s2, .int .u64 q2])) w := add64_int hh th q1 s2 q2 hh0 th0 q10 q11 hs2 hq2
      have NX : Hid (((Sq.sum (zs.take (k + 1)) : Nat) : Int) = (tt + q2) * 340282366920938463463374607431768211456 + s2 * 18446744073709551616 + s1) := by
        have e1 := hS.out
        have e2 := HT.out
        have e3 := HD.out.2
        show _ = _
        rw [Sq.take_succ zs k (by omega), ← hx.out, ← e3]
        generalize D * D = DD at *
        omega
      clear hs1 hq1 hs2 hq2
      go_wp2_with fail
      go_round
      case rel => exact ⟨k + 1, tt + q2, s2, s1, rfl, rfl, rfl, by go_num, by omega, by omega, by omega, s20, s21, s10, s11, NX.out⟩
      case measure => simp [intOf]; omega
    · obtain ⟨n, hn⟩ : ∃ n : Nat, n = zs.length := ⟨_, rfl⟩
      have hkn : k = zs.length := by omega
      obtain ⟨T, hT⟩ := Int.eq_ofNat_of_zero_le t0
      obtain ⟨Hh, hHh⟩ := Int.eq_ofNat_of_zero_le hh0
      obtain ⟨Ll, hLl⟩ := Int.eq_ofNat_of_zero_le l0
      have hsum : Sq.sum zs = (T * 18446744073709551616 + Hh) * 18446744073709551616 + Ll := by
        have e := hS.out
        rw [hkn, List.take_length, hT, hHh, hLl] at e
        omega
      have hTn : T < zs.length := by
        have := Sq.sum_le zs
        rw [hsum] at this
        omega
      obtain ⟨m1, m2⟩ := Sq.two_steps T Hh Ll zs.length hTn (by omega)
      have HM : Hid (tt = (T : Int) ∧ hh = (Hh : Int) ∧ ll = (Ll : Int) ∧ T < zs.length ∧ Hh < 18446744073709551616 ∧ Ll < 18446744073709551616 ∧ Sq.sum zs = (T * 18446744073709551616 + Hh) * 18446744073709551616 + Ll) := ⟨hT, hHh, hLl, hTn, by omega, by omega, hsum⟩
      clear hT hHh hLl hsum hTn hn hkn
      have H12 : Hid _ := And.intro m1 m2
      clear m1 m2
      obtain ⟨rs, hrs, rs0⟩ := nat_int ((T * 18446744073709551616 + Hh) % zs.length)
      obtain ⟨mh, hmh, mh0⟩ := nat_int ((T * 18446744073709551616 + Hh) / zs.length)
      obtain ⟨ml, hml, ml0⟩ := nat_int (((T * 18446744073709551616 + Hh) % zs.length * 18446744073709551616 + Ll) / zs.length)
      have HR : Hid (rs = (((T * 18446744073709551616 + Hh) % zs.length : Nat) : Int) ∧ mh = (((T * 18446744073709551616 + Hh) / zs.length : Nat) : Int) ∧ ml = ((((T * 18446744073709551616 + Hh) % zs.length * 18446744073709551616 + Ll) / zs.length : Nat) : Int)) := ⟨hrs, hmh, hml⟩
      clear hrs hmh hml
      go_wp2_with fail
      refine (div64_int tt hh _ T Hh zs.length HM.out.1 HM.out.2.1 rfl _ HM.out.2.2.2.1 HM.out.2.2.2.2.1 (by omega)).mono ?_
      rintro e v1 ⟨rfl, d1, hv⟩
      rw [hv, ← HR.out.1, ← HR.out.2.1]; clear hv
      go_wp2_with fail
      refine (div64_int rs ll _ _ Ll zs.length HR.out.1 HM.out.2.2.1 rfl _ (Nat.mod_lt _ (by omega)) HM.out.2.2.2.2.2.1 (by omega)).mono ?_
      rintro e v2 ⟨rfl, d2, hv⟩
      rw [hv, ← HR.out.2.2]; clear hv
      go_wp2
      refine bodyPost_ret (v := .agg #[.int .u64 mh, .int .u64 ml]) (by simp [results, Try.results69, go_sem]) rfl ⟨Sq.sum zs / zs.length, ?_, rfl, ?_⟩
      · rw [HR.out.2.1, HR.out.2.2, HM.out.2.2.2.2.2.2, H12.out.1, H12.out.2]
      · exact ((below_drewN ((Below.refl _ _).alloc (Nat.le_refl _) _) _).setCell (Nat.le_refl _) _).setCell (Nat.le_refl _) _
end Go.Proofs.Ytdlipponajilbaa
/- What Root and RMS of package fixed return: the whole root of the number times 2^32; the whole root of the mean of the squares of the first 64 numbers. -/
namespace Sq
/-- the whole root -/
def srt : Nat → Nat
  | 0 => 0
  | N + 1 => if (srt N + 1) * (srt N + 1) ≤ N + 1 then srt N + 1 else srt N
theorem srt_spec (N : Nat) : srt N * srt N ≤ N ∧ N < (srt N + 1) * (srt N + 1) := by
  induction N with
  | zero => simp [srt]
  | succ N ih =>
    rw [srt]
    split
    · rename_i h
      refine ⟨h, ?_⟩
      have e : (srt N + 1 + 1) * (srt N + 1 + 1) = (srt N + 1) * (srt N + 1) + 2 * (srt N + 1) + 1 := by
        rw [Nat.add_mul, Nat.mul_add]; omega
      omega
    · omega
theorem root_one {N F G : Nat} (h1 : F * F ≤ N) (h2 : N < (F + 1) * (F + 1)) (g1 : G * G ≤ N) (g2 : N < (G + 1) * (G + 1)) : F = G := by
  rcases Nat.lt_trichotomy F G with h | h | h
  · have := Nat.mul_le_mul (show F + 1 ≤ G from h) (show F + 1 ≤ G from h); omega
  · exact h
  · have := Nat.mul_le_mul (show G + 1 ≤ F from h) (show G + 1 ≤ F from h); omega
theorem srt_eq {N F : Nat} (h1 : F * F ≤ N) (h2 : N < (F + 1) * (F + 1)) : F = srt N := root_one h1 h2 (srt_spec N).1 (srt_spec N).2
theorem srt_le {N B : Nat} (h : N ≤ B * B) : srt N ≤ B := by
  refine Nat.le_of_not_lt fun x => ?_
  have := Nat.mul_le_mul (show B + 1 ≤ srt N from x) (show B + 1 ≤ srt N from x)
  have h2 := (srt_spec N).1
  have e : (B + 1) * (B + 1) = B * B + 2 * B + 1 := by rw [Nat.add_mul, Nat.mul_add]; omega
  omega
def rms (zs : List Int) : Nat := srt (sum (zs.take 64) / (zs.take 64).length)
theorem mean_le (zs : List Int) : sum zs / zs.length ≤ 21267647932558653966460912964485513216 := by
  refine Nat.div_le_of_le_mul ?_
  exact sum_le zs
theorem rms_le (zs : List Int) : rms zs ≤ 4611686018427387904 := srt_le (mean_le _)
end Sq
namespace Go.Proofs.Ytdlipponajilbaa
open Go.RowKit
theorem mid_words (M : Nat) : M / 18446744073709551616 * 18446744073709551616 + M % 18446744073709551616 = M := by omega
set_option maxRecDepth 20000 in
set_option maxHeartbeats 1000000 in
theorem RMS_any (ao : Option Addr) (zs : List Int) (cap : Nat) (w : World) (hc : (zs.length : Int) ≤ cap) (hm : (cap : Int) ≤ maxLen) (ra : Rs w ao zs) (da : okz zs) :
    Calls Try.prog 47 #[.slice ao zs.length cap] w fun e w' => e = .returned (.int .i64 ((Sq.rms zs : Nat) : Int)) ∧ Below w.heap.size w w' := by
  unfold maxLen at hm
  by_cases h0 : (zs.length : Int) = 0
  · have hz : zs = [] := by
      cases zs with
      | nil => rfl
      | cons a b => simp at h0; omega
    subst hz
    go_enter Try.func47, Try.ntmps47
    go_wp2
    go_ret
    exact ⟨rfl, Below.refl _ _⟩
  obtain ⟨R, hR⟩ : ∃ R : Int, R = ((Sq.rms zs : Nat) : Int) := ⟨_, rfl⟩
  rw [← hR]
  obtain ⟨ys, hys⟩ : ∃ ys, ys = zs.take 64 := ⟨_, rfl⟩
  have HY : Hid (Rs w ao ys ∧ okz ys ∧ R = ((Sq.srt (Sq.sum ys / ys.length) : Nat) : Int)) := by rw [hys]; exact ⟨ra.take 64, okz_take da 64, hR⟩
  clear ra da hR
  by_cases h1 : (64 : Int) < zs.length
  · have HL : Hid (ys.length = 64) := by show _ = _; rw [hys, List.length_take]; omega
    clear hys
    go_enter Try.func47, Try.ntmps47
    go_wp2_with fail
    have hms := meanSquare_any ao ys cap w (by rw [HL.out]; decide) (by rw [HL.out]; decide) HY.out.1 HY.out.2.1
    rw [HL.out] at hms
    refine hms.mono ?_
    clear hms
    rintro e w1 ⟨M, rfl, hM, k1⟩
    have hMb : M ≤ 21267647932558653966460912964485513216 := by rw [hM]; have h := Sq.mean_le ys; rw [HL.out] at h; exact h
    have HM : Hid (M = Sq.sum ys / ys.length ∧ M ≤ 21267647932558653966460912964485513216 ∧ Below w.heap.size w w1) := ⟨by rw [hM, HL.out], hMb, k1⟩
    obtain ⟨th, hth, th0⟩ := nat_int (M / 18446744073709551616)
    obtain ⟨tl, htl, tl0⟩ := nat_int (M % 18446744073709551616)
    rw [← hth, ← htl]
    have HW : Hid (th = ((M / 18446744073709551616 : Nat) : Int) ∧ tl = ((M % 18446744073709551616 : Nat) : Int)) := ⟨hth, htl⟩
    clear hth htl hMb hM k1
    go_wp2_with fail
    refine (root_below th tl _ _ HW.out.1 HW.out.2 _ (by have := HM.out.2.1; omega) (by omega)).mono ?_
    rintro e w2 ⟨F, rfl, f1, f2, f3, hg⟩
    rw [mid_words] at f1 f2
    have f4 : (F : Int) = R := by rw [HY.out.2.2, ← HM.out.1, Sq.srt_eq f1 f2]
    have f5 : F ≤ 4611686018427387904 := by rw [Sq.srt_eq f1 f2]; exact Sq.srt_le HM.out.2.1
    have f6 : R ≤ 4611686018427387904 := by omega
    have f7 : 0 ≤ R := by omega
    rw [f4]
    have hg' : Hid (Below w.heap.size w w2) := Below.then HM.out.2.2 hg
    clear f1 f2 f3 f4 f5 hg
    go_wp2
    go_ret
    exact ⟨rfl, hg'.out⟩
  · have HL : ys = zs := by rw [hys]; exact List.take_of_length_le (by omega)
    subst HL
    clear hys
    have HM0 : Hid (Sq.sum ys / ys.length ≤ 21267647932558653966460912964485513216) := Sq.mean_le ys
    go_enter Try.func47, Try.ntmps47
    go_wp2_with fail
    refine (meanSquare_any ao ys cap w (by omega) (by omega) HY.out.1 HY.out.2.1).mono ?_
    rintro e w1 ⟨M, rfl, hM, k1⟩
    have HM : Hid (M = Sq.sum ys / ys.length ∧ M ≤ 21267647932558653966460912964485513216 ∧ Below w.heap.size w w1) := ⟨hM, by rw [hM]; exact HM0.out, k1⟩
    obtain ⟨th, hth, th0⟩ := nat_int (M / 18446744073709551616)
    obtain ⟨tl, htl, tl0⟩ := nat_int (M % 18446744073709551616)
    rw [← hth, ← htl]
    have HW : Hid (th = ((M / 18446744073709551616 : Nat) : Int) ∧ tl = ((M % 18446744073709551616 : Nat) : Int)) := ⟨hth, htl⟩
    clear hth htl hM k1
    go_wp2_with fail
    refine (root_below th tl _ _ HW.out.1 HW.out.2 _ (by have := HM.out.2.1; omega) (by omega)).mono ?_
    rintro e w2 ⟨F, rfl, f1, f2, f3, hg⟩
    rw [mid_words] at f1 f2
    have f4 : (F : Int) = R := by rw [HY.out.2.2, ← HM.out.1, Sq.srt_eq f1 f2]
    have f5 : F ≤ 4611686018427387904 := by rw [Sq.srt_eq f1 f2]; exact Sq.srt_le HM.out.2.1
    have f6 : R ≤ 4611686018427387904 := by omega
    have f7 : 0 ≤ R := by omega
    rw [f4]
    have hg' : Hid (Below w.heap.size w w2) := Below.then HM.out.2.2 hg
    clear f1 f2 f3 f4 f5 hg
    go_wp2
    go_ret
    exact ⟨rfl, hg'.out⟩
end Go.Proofs.Ytdlipponajilbaa
