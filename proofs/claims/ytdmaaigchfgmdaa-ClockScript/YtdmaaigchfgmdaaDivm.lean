/- Plain arithmetic of a quotient of 128 by 64 bits found in two digits of 32 bits, and the leading noughts of a divisor. -/
import Derived.Test.YtdmaaigchfgmdaaBits
import Derived.WalkKit
import Derived.Laws.Bits64b
namespace FxDiv

/-- one digit: what holds while the guess is made smaller -/
structure Dig (Y y1 y0 u d q r : Nat) : Prop where
  split : Y = y1 * 4294967296 + y0
  y0lt : y0 < 4294967296
  y1ge : 2147483648 ≤ y1
  y1lt : y1 < 4294967296
  ult : u < Y
  dlt : d < 4294967296
  eq : q * y1 + r = u
  ge : (u * 4294967296 + d) / Y ≤ q
  le : q ≤ 4294967297

theorem Dig.ypos {Y y1 y0 u d q r} (h : Dig Y y1 y0 u d q r) : 0 < Y := by have := h.ult; omega

theorem Dig.start {Y y1 y0 u d : Nat} (hs : Y = y1 * 4294967296 + y0) (h0 : y0 < 4294967296) (h1 : 2147483648 ≤ y1) (h1' : y1 < 4294967296) (hu : u < Y) (hd : d < 4294967296) :
    Dig Y y1 y0 u d (u / y1) (u % y1) := by
  have hY : 0 < Y := by omega
  refine ⟨hs, h0, h1, h1', hu, hd, by rw [Nat.mul_comm]; exact Nat.div_add_mod u y1, ?_, ?_⟩
  · rw [Nat.le_div_iff_mul_le (by omega)]
    have h2 : (u * 4294967296 + d) / Y * Y ≤ u * 4294967296 + d := Nat.div_mul_le_self _ _
    generalize (u * 4294967296 + d) / Y = q at *
    have h3 : q * Y = q * y1 * 4294967296 + q * y0 := by rw [hs, Nat.mul_add, Nat.mul_assoc]
    have h4 : 0 ≤ q * y0 := Nat.zero_le _
    generalize q * y1 = a at *
    generalize q * y0 = b at *
    omega
  · have : u / y1 < 4294967298 := by
      rw [Nat.div_lt_iff_lt_mul (by omega)]
      omega
    omega

/-- the product that the guess makes, against what is divided -/
theorem Dig.prod {Y y1 y0 u d q r} (h : Dig Y y1 y0 u d q r) : q * Y + (4294967296 * r + d) = u * 4294967296 + d + q * y0 := by
  have h3 : q * Y = q * y1 * 4294967296 + q * y0 := by rw [h.split, Nat.mul_add, Nat.mul_assoc]
  have := h.eq
  generalize q * y1 = a at *
  generalize q * y0 = b at *
  omega

theorem Dig.qlt {Y y1 y0 u d q r} (h : Dig Y y1 y0 u d q r) : (u * 4294967296 + d) / Y < 4294967296 := by
  rw [Nat.div_lt_iff_lt_mul h.ypos]
  have := h.ult; have := h.dlt
  omega

/-- the guess is too great -/
theorem Dig.big {Y y1 y0 u d q r} (h : Dig Y y1 y0 u d q r) (hc : 4294967296 ≤ q ∨ 4294967296 * r + d < q * y0) : (u * 4294967296 + d) / Y < q := by
  rcases hc with hc | hc
  · have := h.qlt; omega
  · rw [Nat.div_lt_iff_lt_mul h.ypos]
    have := h.prod
    omega

theorem Dig.down {Y y1 y0 u d q r} (h : Dig Y y1 y0 u d q r) (hc : 4294967296 ≤ q ∨ 4294967296 * r + d < q * y0) : Dig Y y1 y0 u d (q - 1) (r + y1) ∧ 1 ≤ q ∧ q - 1 ≤ 4294967296 := by
  have hb := h.big hc
  have hq : 1 ≤ q := Nat.lt_of_le_of_lt (Nat.zero_le _) hb
  refine ⟨⟨h.split, h.y0lt, h.y1ge, h.y1lt, h.ult, h.dlt, ?_, by omega, by have := h.le; omega⟩, hq, by have := h.le; omega⟩
  have := h.eq
  obtain ⟨p, rfl⟩ : ∃ p, q = p + 1 := ⟨q - 1, by omega⟩
  rw [Nat.add_mul] at this
  simp only [Nat.add_sub_cancel]
  omega

/-- the guess is right, where the test says no -/
theorem Dig.fits {Y y1 y0 u d q r} (h : Dig Y y1 y0 u d q r) (hc : q * y0 ≤ 4294967296 * r + d) : q = (u * 4294967296 + d) / Y := by
  refine Nat.le_antisymm ?_ h.ge
  rw [Nat.le_div_iff_mul_le h.ypos]
  have := h.prod
  omega

/-- the guess is right, where the rest has grown over a digit -/
theorem Dig.broke {Y y1 y0 u d q r} (h : Dig Y y1 y0 u d q r) (hq : q ≤ 4294967296) (hr : 4294967296 ≤ r) : q = (u * 4294967296 + d) / Y := by
  refine h.fits ?_
  have h1 : q * y0 ≤ 4294967296 * y0 := Nat.mul_le_mul_right _ hq
  have := h.y0lt
  omega

/-- what is left, also where it is reckoned with wraps of 64 bits -/
theorem Dig.rest {Y y1 y0 u d q r} (h : Dig Y y1 y0 u d q r) (he : q = (u * 4294967296 + d) / Y) : u * 4294967296 + d = q * Y + (u * 4294967296 + d) % Y ∧ (u * 4294967296 + d) % Y < Y := by
  subst he
  exact ⟨(Nat.div_add_mod' _ _).symm, Nat.mod_lt _ h.ypos⟩

theorem two_aux0 (U d1 d0 a r1 b r0 K : Nat) (h1 : U + d1 = a + r1) (h0 : r1 * K + d0 = b + r0) : U * K + (d1 * K + d0) = a * K + b + r0 := by
  have : (U + d1) * K = (a + r1) * K := by rw [h1]
  rw [Nat.add_mul, Nat.add_mul] at this
  omega
theorem two_aux (u d1 d0 a r1 b r0 : Nat) (h1 : u * 4294967296 + d1 = a + r1) (h0 : r1 * 4294967296 + d0 = b + r0) : u * 18446744073709551616 + (d1 * 4294967296 + d0) = a * 4294967296 + b + r0 := by
  have e : u * 18446744073709551616 = u * 4294967296 * 4294967296 := by rw [Nat.mul_assoc]
  rw [e]
  exact two_aux0 _ _ _ _ _ _ _ _ h1 h0

/-- two digits make the quotient -/
theorem two (Y u d1 d0 q1 r1 q0 r0 : Nat) (h1 : u * 4294967296 + d1 = q1 * Y + r1) (h0 : r1 * 4294967296 + d0 = q0 * Y + r0) (hr : r0 < Y) :
    (u * 18446744073709551616 + (d1 * 4294967296 + d0)) / Y = q1 * 4294967296 + q0 ∧ (u * 18446744073709551616 + (d1 * 4294967296 + d0)) % Y = r0 := by
  have g2 : (q1 * 4294967296 + q0) * Y = q1 * Y * 4294967296 + q0 * Y := by rw [Nat.add_mul, Nat.mul_right_comm]
  have e : u * 18446744073709551616 + (d1 * 4294967296 + d0) = (q1 * 4294967296 + q0) * Y + r0 := by
    rw [g2]
    exact two_aux _ _ _ _ _ _ _ h1 h0
  have hY : 0 < Y := by omega
  rw [e, Nat.add_comm, Nat.add_mul_div_right _ _ hY, Nat.add_mul_mod_self_right, Nat.div_eq_of_lt hr, Nat.mod_eq_of_lt hr]
  omega

/-- what is shifted up ahead of it changes the quotient not, and the rest is shifted -/
theorem shifted (N y s : Nat) : (N * 2 ^ s) / (y * 2 ^ s) = N / y ∧ (N * 2 ^ s) % (y * 2 ^ s) / 2 ^ s = N % y := by
  have h2 : 0 < 2 ^ s := Nat.two_pow_pos s
  refine ⟨Nat.mul_div_mul_right _ _ h2, ?_⟩
  rw [Nat.mul_mod_mul_right, Nat.mul_div_cancel _ h2]

/-- the number, shifted up, in two words -/
theorem words (hi lo s : Nat) (hs : s ≤ 64) : (hi * 18446744073709551616 + lo) * 2 ^ s = (hi * 2 ^ s + lo / 2 ^ (64 - s)) * 18446744073709551616 + lo * 2 ^ s % 18446744073709551616 := by
  have e : lo * 2 ^ s / 18446744073709551616 = lo / 2 ^ (64 - s) := by
    have : 18446744073709551616 = 2 ^ (64 - s) * 2 ^ s := by rw [← Nat.pow_add, show 64 - s + s = 64 from by omega]
    rw [this, Nat.mul_div_mul_right _ _ (Nat.two_pow_pos s)]
  have := Nat.div_add_mod (lo * 2 ^ s) 18446744073709551616
  rw [e] at this
  rw [Nat.add_mul, Nat.add_mul, Nat.mul_right_comm]
  generalize hi * 2 ^ s = a at *
  generalize lo * 2 ^ s = b at *
  omega

theorem high_lt (hi lo y s : Nat) (hs : s ≤ 64) (hlo : lo < 18446744073709551616) (h : hi < y) : hi * 2 ^ s + lo / 2 ^ (64 - s) < y * 2 ^ s := by
  have h1 : lo / 2 ^ (64 - s) < 2 ^ s := by
    rw [Nat.div_lt_iff_lt_mul (Nat.two_pow_pos _), ← Nat.pow_add, show s + (64 - s) = 64 from by omega]
    exact hlo
  have h2 : (hi + 1) * 2 ^ s ≤ y * 2 ^ s := Nat.mul_le_mul_right _ h
  rw [Nat.add_mul] at h2
  omega

end FxDiv

namespace Go.Proofs.Ytdmaaigchfgmdaa
open Go.RowKit
theorem bl_top (y : Nat) (h : 0 < y) (hy : y < 18446744073709551616) : bitLen y ≤ 64 ∧ 1 ≤ bitLen y ∧ 2 ^ 63 ≤ y * 2 ^ (64 - bitLen y) ∧ y * 2 ^ (64 - bitLen y) < 2 ^ 64 := by
  have l := bl_le (y : Int) (by omega) (by omega)
  rw [Int.toNat_natCast] at l
  obtain ⟨h1, h2⟩ := bitLen_spec y
  have h3 := h2 (by omega)
  have h4 : 1 ≤ bitLen y := by
    rcases Nat.eq_zero_or_pos (bitLen y) with h0 | h0
    · rw [h0] at h1; simp at h1; omega
    · exact h0
  refine ⟨l, h4, ?_, ?_⟩
  · have : 2 ^ (bitLen y - 1) * 2 ^ (64 - bitLen y) = 2 ^ 63 := by rw [← Nat.pow_add]; congr 1; omega
    rw [← this]; exact Nat.mul_le_mul_right _ h3
  · have : 2 ^ bitLen y * 2 ^ (64 - bitLen y) = 2 ^ 64 := by rw [← Nat.pow_add]; congr 1; omega
    rw [← this]; exact Nat.mul_lt_mul_of_pos_right h1 (Nat.two_pow_pos _)
theorem lz64_s (y : Nat) (w : World) (h : 0 < y) (hy : y < 18446744073709551616) :
    Calls Try.prog 95 #[.int .u64 y] w fun e w' => ∃ s : Nat, e = .returned (.int .i64 (s : Int)) ∧ s ≤ 63 ∧ 9223372036854775808 ≤ y * 2 ^ s ∧ y * 2 ^ s < 18446744073709551616 ∧ w' = w := by
  refine (lz64_any (y : Int) w (by omega) (by omega)).mono ?_
  rintro e w' ⟨rfl, rfl⟩
  obtain ⟨a, b, c, d⟩ := bl_top y h hy
  refine ⟨64 - bitLen y, ?_, by omega, c, d, rfl⟩
  rw [Int.toNat_natCast]
  exact ret_i64 (by omega)
theorem or_add (a b s : Nat) (hb : b < 2 ^ s) (hab : a * 2 ^ s + b < 18446744073709551616) : bits .or .u64 ((a * 2 ^ s : Nat) : Int) (b : Int) = ((a * 2 ^ s + b : Nat) : Int) := by
  rw [bits_or_u64_nat _ _ (by omega) (by omega)]
  have := Nat.shiftLeft_add_eq_or_of_lt hb a
  rw [Nat.shiftLeft_eq] at this
  rw [this]
end Go.Proofs.Ytdmaaigchfgmdaa
