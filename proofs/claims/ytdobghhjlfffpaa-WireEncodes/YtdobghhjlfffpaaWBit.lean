/- Bits: numbers put together of parts, and parted. -/
import Derived.Test.YtdobghhjlfffpaaRows
import Derived.Laws.Bits128
import Derived.Laws.BitsAllLaws
namespace Go.Proofs.Ytdobghhjlfffpaa
open Go
theorem ofInt_i64 (a : Nat) (ha : a < 9223372036854775808) : (BitVec.ofInt 64 (a : Int)).toNat = a := by
  rw [BitVec.ofInt_natCast, BitVec.toNat_ofNat]; exact Nat.mod_eq_of_lt (by omega)
theorem i64_and_nat (a b : Nat) (ha : a < 256) (hb : b < 256) : bits .and .i64 (a : Int) (b : Int) = ((a &&& b : Nat) : Int) := by
  have hx : a &&& b < 2 ^ 8 := Nat.and_lt_two_pow _ (by omega)
  show IntKind.i64.wrap ((BitVec.ofInt 64 (a : Int) &&& BitVec.ofInt 64 (b : Int)).toNat : Int) = _
  rw [BitVec.toNat_and, ofInt_i64 a (by omega), ofInt_i64 b (by omega), IntKind.wrap_i64]
  omega
theorem i64_or_nat (a b : Nat) (ha : a < 256) (hb : b < 256) : bits .or .i64 (a : Int) (b : Int) = ((a ||| b : Nat) : Int) := by
  have hx : a ||| b < 2 ^ 8 := Nat.or_lt_two_pow (by omega) (by omega)
  show IntKind.i64.wrap ((BitVec.ofInt 64 (a : Int) ||| BitVec.ofInt 64 (b : Int)).toNat : Int) = _
  rw [BitVec.toNat_or, ofInt_i64 a (by omega), ofInt_i64 b (by omega), IntKind.wrap_i64]
  omega
theorem or_parts : ∀ f, f < 8 → ∀ o, o < 32 → (32 * f) ||| o = 32 * f + o := by decide
theorem or_ver : ∀ v, v < 8 → ∀ o, o < 8 → (8 * v) ||| o = 8 * v + o := by decide
theorem or_leap : ∀ l, l < 4 → ∀ v, v < 8 → (64 * l) ||| (8 * v) = 64 * l + 8 * v := by decide
theorem or_all : ∀ x, x < 32 → ∀ o, o < 8 → (8 * x) ||| o = 8 * x + o := by decide
set_option maxRecDepth 20000 in
theorem and_7 : ∀ b, b < 256 → b &&& 7 = b % 8 := by decide
set_option maxRecDepth 20000 in
theorem and_31 : ∀ b, b < 256 → b &&& 31 = b % 32 := by decide
set_option maxRecDepth 20000 in
theorem and_32 : ∀ b, b < 256 → b &&& 32 = b / 32 % 2 * 32 := by decide
set_option maxRecDepth 20000 in
theorem and_64 : ∀ b, b < 256 → b &&& 64 = b / 64 % 2 * 64 := by decide
set_option maxRecDepth 20000 in
theorem and_128 : ∀ b, b < 256 → b &&& 128 = b / 128 % 2 * 128 := by decide
theorem i64_or_flags (f o : Int) (f0 : 0 ≤ f) (f1 : f < 8) (o0 : 0 ≤ o) (o1 : o < 32) : bits .or .i64 (32 * f) o = 32 * f + o := by
  obtain ⟨F, rfl⟩ := Int.eq_ofNat_of_zero_le f0
  obtain ⟨O, rfl⟩ := Int.eq_ofNat_of_zero_le o0
  have := i64_or_nat (32 * F) O (by omega) (by omega)
  rw [or_parts F (by omega) O (by omega)] at this
  simpa using this
theorem i64_or_mode (v o : Int) (f0 : 0 ≤ v) (f1 : v < 32) (o0 : 0 ≤ o) (o1 : o < 8) : bits .or .i64 (8 * v) o = 8 * v + o := by
  obtain ⟨F, rfl⟩ := Int.eq_ofNat_of_zero_le f0
  obtain ⟨O, rfl⟩ := Int.eq_ofNat_of_zero_le o0
  have := i64_or_nat (8 * F) O (by omega) (by omega)
  rw [or_all F (by omega) O (by omega)] at this
  simpa using this
theorem i64_or_leap (l v : Int) (f0 : 0 ≤ l) (f1 : l < 4) (o0 : 0 ≤ v) (o1 : v < 8) : bits .or .i64 (64 * l) (8 * v) = 64 * l + 8 * v := by
  obtain ⟨F, rfl⟩ := Int.eq_ofNat_of_zero_le f0
  obtain ⟨O, rfl⟩ := Int.eq_ofNat_of_zero_le o0
  have := i64_or_nat (64 * F) (8 * O) (by omega) (by omega)
  rw [or_leap F (by omega) O (by omega)] at this
  simpa using this
theorem i64_and_c (b : Int) (c : Nat) (hc : c < 256) (b0 : 0 ≤ b) (b1 : b < 256) (r : Int) (hr : ∀ B : Nat, b = (B : Int) → r = ((B &&& c : Nat) : Int)) : bits .and .i64 b (c : Int) = r := by
  obtain ⟨B, rfl⟩ := Int.eq_ofNat_of_zero_le b0
  rw [hr B rfl]
  exact i64_and_nat B c (by omega) hc
theorem i64_and_7 (b : Int) (b0 : 0 ≤ b) (b1 : b < 256) : bits .and .i64 b 7 = b % 8 := i64_and_c b 7 (by decide) b0 b1 _ fun B h => by rw [and_7 B (by omega), h]; omega
theorem i64_and_31 (b : Int) (b0 : 0 ≤ b) (b1 : b < 256) : bits .and .i64 b 31 = b % 32 := i64_and_c b 31 (by decide) b0 b1 _ fun B h => by rw [and_31 B (by omega), h]; omega
theorem i64_and_32 (b : Int) (b0 : 0 ≤ b) (b1 : b < 256) : bits .and .i64 b 32 = b / 32 % 2 * 32 := i64_and_c b 32 (by decide) b0 b1 _ fun B h => by rw [and_32 B (by omega), h]; omega
theorem i64_and_64 (b : Int) (b0 : 0 ≤ b) (b1 : b < 256) : bits .and .i64 b 64 = b / 64 % 2 * 64 := i64_and_c b 64 (by decide) b0 b1 _ fun B h => by rw [and_64 B (by omega), h]; omega
theorem i64_and_128 (b : Int) (b0 : 0 ≤ b) (b1 : b < 256) : bits .and .i64 b 128 = b / 128 % 2 * 128 := i64_and_c b 128 (by decide) b0 b1 _ fun B h => by rw [and_128 B (by omega), h]; omega
theorem u8_and_7 (b : Int) (b0 : 0 ≤ b) (b1 : b < 256) : bits .and .u8 b 7 = b % 8 := by
  obtain ⟨B, rfl⟩ := Int.eq_ofNat_of_zero_le b0
  have := u8_and_nat B 7 (by omega) (by decide)
  rw [and_7 B (by omega)] at this
  simpa using this
/-- a byte behind a number -/
theorem u64_or_byte (x b : Int) (x0 : 0 ≤ x) (x1 : x < 72057594037927936) (b0 : 0 ≤ b) (b1 : b < 256) : bits .or .u64 (x * 256) b = x * 256 + b := by
  obtain ⟨X, rfl⟩ := Int.eq_ofNat_of_zero_le x0
  obtain ⟨B, rfl⟩ := Int.eq_ofNat_of_zero_le b0
  have := u64_or_nat (X * 256) B (by omega) (by omega)
  have e : (X * 256) ||| B = X * 256 + B := by
    have h := Nat.two_pow_add_eq_or_of_lt (i := 8) (b := B) (by omega) X
    rw [show (2 : Nat) ^ 8 * X = X * 256 by omega] at h
    exact h.symm
  rw [e] at this
  simpa using this
end Go.Proofs.Ytdobghhjlfffpaa
