/- Half of a sum, made of the bits that two numbers share and of those that they do not, is the half divided down. -/
import Derived.WalkKit
namespace Go.Proofs.Ytdmaaigchfgmdaa
theorem and_mod2 (A B : Nat) : (A &&& B) % 2 = (A % 2) * (B % 2) := by
  have := Nat.and_mod_two_pow (a := A) (b := B) (n := 1)
  simp only [Nat.pow_one] at this
  rw [this]
  rcases Nat.mod_two_eq_zero_or_one A with h | h <;> rcases Nat.mod_two_eq_zero_or_one B with g | g <;> rw [h, g] <;> decide
theorem xor_mod2 (A B : Nat) : (A ^^^ B) % 2 = (A + B) % 2 := by
  have := Nat.xor_mod_two_pow (a := A) (b := B) (n := 1)
  simp only [Nat.pow_one] at this
  rw [this]
  rcases Nat.mod_two_eq_zero_or_one A with h | h <;> rcases Nat.mod_two_eq_zero_or_one B with g | g <;> rw [h, g] <;> simp <;> omega
theorem and_xor (n : Nat) : ∀ A B : Nat, A < 2 ^ n → B < 2 ^ n → A + B = 2 * (A &&& B) + (A ^^^ B) := by
  induction n with
  | zero => intro A B hA hB; simp at hA hB; subst hA hB; simp
  | succ n ih =>
    intro A B hA hB
    rw [Nat.pow_succ] at hA hB
    have h := ih (A / 2) (B / 2) (by omega) (by omega)
    rw [← Nat.and_div_two, ← Nat.xor_div_two] at h
    have e1 := and_mod2 A B
    have e2 := xor_mod2 A B
    generalize (A &&& B) = x at *
    generalize (A ^^^ B) = z at *
    rcases Nat.mod_two_eq_zero_or_one A with ha | ha <;> rcases Nat.mod_two_eq_zero_or_one B with hb | hb <;> rw [ha, hb] at e1 <;> omega
theorem wrap_lo (p : Nat) (h : ¬ 9223372036854775808 ≤ p) : IntKind.i64.wrap (p : Int) = p := by rw [IntKind.wrap_i64]; omega
theorem wrap_hi (p : Nat) (h : 9223372036854775808 ≤ p) (h' : p < 18446744073709551616) : IntKind.i64.wrap (p : Int) = (p : Int) - 18446744073709551616 := by rw [IntKind.wrap_i64]; omega
theorem mean_bits (a b : Int) (ha0 : -9223372036854775808 ≤ a) (ha1 : a ≤ 9223372036854775807) (hb0 : -9223372036854775808 ≤ b) (hb1 : b ≤ 9223372036854775807) :
    bits .and .i64 a b + bits .xor .i64 a b / 2 = (a + b) / 2 := by
  have eA : ((BitVec.ofInt 64 a).toNat : Int) = a % 18446744073709551616 := by rw [BitVec.toNat_ofInt]; omega
  have eB : ((BitVec.ofInt 64 b).toNat : Int) = b % 18446744073709551616 := by rw [BitVec.toNat_ofInt]; omega
  show IntKind.i64.wrap (((BitVec.ofInt 64 a) &&& (BitVec.ofInt 64 b)).toNat : Int) + IntKind.i64.wrap (((BitVec.ofInt 64 a) ^^^ (BitVec.ofInt 64 b)).toNat : Int) / 2 = _
  generalize hX : BitVec.ofInt 64 a = X at *
  generalize hY : BitVec.ofInt 64 b = Y at *
  have h := and_xor 64 X.toNat Y.toNat X.isLt Y.isLt
  have m1 := BitVec.msb_and (x := X) (y := Y)
  have m2 := BitVec.msb_xor (x := X) (y := Y)
  have m3 := (X &&& Y).isLt
  have m4 := (X ^^^ Y).isLt
  have m5 := X.isLt
  have m6 := Y.isLt
  simp only [BitVec.msb_eq_decide, Nat.reduceSub, Nat.reducePow] at m1 m2 m3 m4 m5 m6
  rw [← BitVec.toNat_and, ← BitVec.toNat_xor] at h
  generalize (X &&& Y).toNat = p at *
  generalize (X ^^^ Y).toNat = q at *
  generalize X.toNat = A at *
  generalize Y.toNat = B at *
  clear hX hY
  have f1 : 9223372036854775808 ≤ p ↔ 9223372036854775808 ≤ A ∧ 9223372036854775808 ≤ B := by
    have := congrArg (· = true) m1
    simpa using this
  have f2 : 9223372036854775808 ≤ q ↔ ¬ (9223372036854775808 ≤ A ↔ 9223372036854775808 ≤ B) := by
    have := congrArg (· = true) m2
    simpa using this
  clear m1 m2
  by_cases h1 : 9223372036854775808 ≤ A
  · have ea : a = (A : Int) - 18446744073709551616 := by omega
    by_cases h2 : 9223372036854775808 ≤ B
    · have eb : b = (B : Int) - 18446744073709551616 := by omega
      have g1 := f1.2 ⟨h1, h2⟩
      have g2 : ¬ 9223372036854775808 ≤ q := fun x => (f2.1 x) ⟨fun _ => h2, fun _ => h1⟩
      rw [wrap_hi p g1 m3, wrap_lo q g2, ea, eb]
      clear eA eB f1 f2 ea eb
      omega
    · have eb : b = (B : Int) := by omega
      have g1 : ¬ 9223372036854775808 ≤ p := fun x => h2 (f1.1 x).2
      have g2 : 9223372036854775808 ≤ q := f2.2 fun x => h2 (x.1 h1)
      rw [wrap_lo p g1, wrap_hi q g2 m4, ea, eb]
      clear eA eB f1 f2 ea eb
      omega
  · have ea : a = (A : Int) := by omega
    by_cases h2 : 9223372036854775808 ≤ B
    · have eb : b = (B : Int) - 18446744073709551616 := by omega
      have g1 : ¬ 9223372036854775808 ≤ p := fun x => h1 (f1.1 x).1
      have g2 : 9223372036854775808 ≤ q := f2.2 fun x => h1 (x.2 h2)
      rw [wrap_lo p g1, wrap_hi q g2 m4, ea, eb]
      clear eA eB f1 f2 ea eb
      omega
    · have eb : b = (B : Int) := by omega
      have g1 : ¬ 9223372036854775808 ≤ p := fun x => h1 (f1.1 x).1
      have g2 : ¬ 9223372036854775808 ≤ q := fun x => (f2.1 x) ⟨fun y => absurd y h1, fun y => absurd y h2⟩
      rw [wrap_lo p g1, wrap_lo q g2, ea, eb]
      clear eA eB f1 f2 ea eb
      omega
end Go.Proofs.Ytdmaaigchfgmdaa
