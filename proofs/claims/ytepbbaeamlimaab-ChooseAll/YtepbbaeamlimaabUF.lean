/- Whole numbers as floats: what float64 of a whole number below 2^53 reads as, how two of them compare, what comes back. -/
import Ieee.Arith
import GoSem.Core.Float
namespace Go.Proofs.Ytepbbaeamlimaab
open Go
namespace Fl
/-- the bits of float64(n) -/
def fl (n : Int) : Nat := FloatKind.f64.nearest n
theorem even_zero (neg : Bool) (n : Nat) : Ieee.Toward.even.cut neg n 0 = n := by
  unfold Ieee.Toward.cut
  simp [Nat.mod_one]
theorem log_bd {m : Nat} (h0 : m ≠ 0) (h : m < 2 ^ 53) : m.log2 ≤ 52 := by
  have := (Nat.log2_lt h0).2 h
  omega
theorem kept_bd {m : Nat} (h0 : m ≠ 0) (h : m < 2 ^ 53) : 2 ^ 52 ≤ m * 2 ^ (52 - m.log2) ∧ m * 2 ^ (52 - m.log2) < 2 ^ 53 := by
  have hl := log_bd h0 h
  have h1 := Nat.log2_self_le h0
  have h2 := Nat.lt_log2_self (n := m)
  refine ⟨?_, ?_⟩
  · calc 2 ^ 52 = 2 ^ m.log2 * 2 ^ (52 - m.log2) := by rw [← Nat.pow_add]; congr 1; omega
      _ ≤ _ := Nat.mul_le_mul_right _ h1
  · calc m * 2 ^ (52 - m.log2) < 2 ^ (m.log2 + 1) * 2 ^ (52 - m.log2) := Nat.mul_lt_mul_of_pos_right h2 (Nat.two_pow_pos _)
      _ = 2 ^ 53 := by rw [← Nat.pow_add]; congr 1; omega
/-- the word of a whole number -/
theorem word_of (neg : Bool) {m : Nat} (h0 : m ≠ 0) (h : m < 2 ^ 53) : Ieee.double.nearest neg m 0 = Ieee.double.word neg ((m.log2 + 1022) * 2 ^ 52 + m * 2 ^ (52 - m.log2)) := by
  have hl := log_bd h0 h
  have hk := kept_bd h0 h
  unfold Ieee.Format.nearest
  rw [if_neg h0]
  have e1 : max ((0 : Int) + m.log2 - Ieee.double.fractionBits) Ieee.double.leastPlace = (m.log2 : Int) - 52 := by
    have : Ieee.double.leastPlace = -1074 := by decide
    have : (Ieee.double.fractionBits : Int) = 52 := rfl
    omega
  simp only [e1]
  have e2 : ((m.log2 : Int) - 52 - 0).toNat = 0 := by omega
  have e3 : ((0 : Int) - ((m.log2 : Int) - 52)).toNat = 52 - m.log2 := by omega
  have e4 : ((m.log2 : Int) - 52 - Ieee.double.leastPlace).toNat = m.log2 + 1022 := by
    have : Ieee.double.leastPlace = -1074 := by decide
    omega
  have e5 : Ieee.double.binade = 2 ^ 52 := rfl
  have e6 : Ieee.double.infRung = 2047 * 2 ^ 52 := by decide
  rw [e2, e3, e4, even_zero, Nat.shiftLeft_eq, e5, e6]
  congr 1
  rw [Nat.min_eq_left]
  omega
/-- what a word reads as -/
theorem read_of (neg : Bool) {m : Nat} (h0 : m ≠ 0) (h : m < 2 ^ 53) : Ieee.double.read (Ieee.double.nearest neg m 0) = .number neg (m * 2 ^ (52 - m.log2)) ((m.log2 : Int) - 52) := by
  have hl := log_bd h0 h
  have hk := kept_bd h0 h
  rw [word_of neg h0 h]
  obtain ⟨K, hK⟩ : ∃ K, m * 2 ^ (52 - m.log2) = K := ⟨_, rfl⟩
  rw [hK] at hk ⊢
  obtain ⟨L, hL⟩ : ∃ L, m.log2 = L := ⟨_, rfl⟩
  rw [hL] at hl ⊢
  have e5 : Ieee.double.binade = 2 ^ 52 := rfl
  have e6 : Ieee.double.infRung = 2047 * 2 ^ 52 := by decide
  have e7 : Ieee.double.signWeight = 2 ^ 63 := rfl
  have e8 : Ieee.double.leastPlace = -1074 := by decide
  unfold Ieee.Format.read Ieee.Format.word
  simp only [e5, e6, e7, e8]
  obtain ⟨r, hr⟩ : ∃ r, r = (L + 1022) * 2 ^ 52 + K := ⟨_, rfl⟩
  rw [← hr]
  have r1 : 2 ^ 52 ≤ r := by omega
  have r2 : r < 2047 * 2 ^ 52 := by omega
  have r3 : r % 2 ^ 52 = K - 2 ^ 52 := by omega
  have r4 : r / 2 ^ 52 = L + 1023 := by omega
  have hs : (if neg = true then 2 ^ 63 + r else r) % 2 ^ 63 = r ∧ ((if neg = true then 2 ^ 63 + r else r) / 2 ^ 63 % 2 == 1) = neg := by
    cases neg
    · simp only [Bool.false_eq_true, if_false]
      have : r / 2 ^ 63 = 0 := by omega
      rw [this]
      exact ⟨by omega, rfl⟩
    · simp only [if_true]
      have : (2 ^ 63 + r) / 2 ^ 63 = 1 := by omega
      rw [this]
      exact ⟨by omega, rfl⟩
  have e9 : 2 ^ 52 + (K - 2 ^ 52) = K := by omega
  have e10 : (-1074 : Int) + ((L + 1023 - 1 : Nat) : Int) = (L : Int) - 52 := by omega
  rw [hs.1, hs.2, if_neg (by omega), if_pos r2, r3, r4, e9, e10]
theorem fl_def (n : Int) : fl n = Ieee.double.nearest (decide (n < 0)) n.natAbs 0 := rfl
theorem read_zero (neg : Bool) : Ieee.double.read (Ieee.double.nearest neg 0 0) = .number neg 0 (-1074) := by cases neg <;> decide
/-- as a datum: a sign, a size, a place -/
theorem read_fl (n : Int) (h : n.natAbs < 2 ^ 53) : ∃ (m : Nat) (p : Nat), p ≤ 1074 ∧ FloatKind.f64.format.read (fl n) = .number (decide (n < 0)) m (-(p : Int)) ∧ m = n.natAbs * 2 ^ p := by
  rw [fl_def]
  show ∃ (m : Nat) (p : Nat), p ≤ 1074 ∧ Ieee.double.read _ = _ ∧ _
  by_cases h0 : n.natAbs = 0
  · obtain ⟨p, hp⟩ : ∃ p : Nat, p = 1074 := ⟨_, rfl⟩
    refine ⟨0, p, by omega, ?_, by rw [h0, Nat.zero_mul]⟩
    rw [h0, read_zero, hp]
    rfl
  · have hl := log_bd h0 h
    refine ⟨_, 52 - n.natAbs.log2, by omega, ?_, rfl⟩
    rw [read_of _ h0 h]
    congr 1
    omega
theorem signed_of (n : Int) (p q : Nat) (hq : p ≤ q) : Ieee.signed (decide (n < 0)) (n.natAbs * 2 ^ p) (q - p) = n * 2 ^ q := by
  have e : n.natAbs * 2 ^ p * 2 ^ (q - p) = n.natAbs * 2 ^ q := by
    rw [Nat.mul_assoc, ← Nat.pow_add]; congr 2; omega
  unfold Ieee.signed
  rw [Nat.shiftLeft_eq, e]
  by_cases hn : n < 0
  · rw [decide_eq_true hn, if_pos rfl]
    push_cast
    rw [show (n.natAbs : Int) = -n by omega, Int.neg_mul, Int.neg_neg]
  · rw [decide_eq_false hn, if_neg (by simp)]
    push_cast
    rw [show (n.natAbs : Int) = n by omega]
theorem compare_mul (a b : Int) (q : Nat) : compare (a * 2 ^ q) (b * 2 ^ q) = compare a b := by
  have hp : (0 : Int) < 2 ^ q := Int.pow_pos (by omega)
  rw [Int.compare_eq_ite_lt, Int.compare_eq_ite_lt]
  by_cases h1 : a < b
  · rw [if_pos h1, if_pos (Int.mul_lt_mul_of_pos_right h1 hp)]
  · rw [if_neg h1, if_neg (fun h => h1 (Int.lt_of_mul_lt_mul_right h (Int.le_of_lt hp)))]
    by_cases h2 : b < a
    · rw [if_pos h2, if_pos (Int.mul_lt_mul_of_pos_right h2 hp)]
    · rw [if_neg h2, if_neg (fun h => h2 (Int.lt_of_mul_lt_mul_right h (Int.le_of_lt hp)))]
/-- how two of them stand to each other -/
theorem order_fl (a b : Int) (ha : a.natAbs < 2 ^ 53) (hb : b.natAbs < 2 ^ 53) : FloatKind.f64.format.order (fl a) (fl b) = some (compare a b) := by
  obtain ⟨m, p, _, h1, h2⟩ := read_fl a ha
  obtain ⟨n, q, _, k1, k2⟩ := read_fl b hb
  unfold Ieee.Format.order
  rw [h1, k1]
  show some _ = _
  subst h2 k2
  have e1 : (-(p : Int) - min (-(p : Int)) (-(q : Int))).toNat = max p q - p := by omega
  have e2 : (-(q : Int) - min (-(p : Int)) (-(q : Int))).toNat = max p q - q := by omega
  rw [e1, e2, signed_of a p _ (Nat.le_max_left _ _), signed_of b q _ (Nat.le_max_right _ _), compare_mul]
/-- back again -/
theorem toInt_fl (a : Int) (ha : a.natAbs < 2 ^ 53) : (FloatKind.f64.decode (fl a)).toInt .zero = some a := by
  obtain ⟨m, p, hp, h1, h2⟩ := read_fl a ha
  unfold FloatKind.decode
  rw [h1]
  unfold Ieee.Datum.toInt Ieee.Datum.integral
  simp only
  have e0 : (-(p : Int)).toNat = 0 := by omega
  have e1 : (- -(p : Int)).toNat = p := by omega
  rw [e0, e1, Nat.shiftLeft_zero]
  have hc : Ieee.Toward.zero.cut (decide (a < 0)) m p = a.natAbs := by
    unfold Ieee.Toward.cut
    simp only [Bool.toNat_false, Nat.add_zero]
    rw [Nat.one_shiftLeft]
    by_cases h0 : a.natAbs = 0
    · rw [h2, h0]; simp
    · have hm : p ≤ m.log2 := by
        rw [h2]
        have : 2 ^ p ≤ a.natAbs * 2 ^ p := Nat.le_mul_of_pos_left _ (by omega)
        exact (Nat.le_log2 (by have := Nat.two_pow_pos p; omega)).2 this
      rw [Nat.min_eq_left (by omega), h2]
      exact Nat.mul_div_cancel _ (Nat.two_pow_pos _)
  rw [hc]
  unfold Ieee.signed
  rw [Nat.shiftLeft_zero]
  congr 1
  by_cases hn : a < 0
  · rw [decide_eq_true hn, if_pos rfl]; omega
  · rw [decide_eq_false hn, if_neg (by simp)]; omega
theorem eq_fl (a b : Int) (ha : a.natAbs < 2 ^ 53) (hb : b.natAbs < 2 ^ 53) : (FloatKind.f64.format.order (fl a) (fl b) == some .eq) = decide (a = b) := by
  rw [order_fl a b ha hb]
  by_cases h : a = b
  · subst h; simp
  · rw [decide_eq_false h]
    have : compare a b ≠ .eq := fun e => h (Int.compare_eq_eq.1 e)
    cases hc : compare a b
    · rfl
    · exact absurd hc this
    · rfl
theorem lt_fl (a b : Int) (ha : a.natAbs < 2 ^ 53) (hb : b.natAbs < 2 ^ 53) : (FloatKind.f64.format.order (fl a) (fl b) == some .lt) = decide (a < b) := by
  rw [order_fl a b ha hb]
  by_cases h : a < b
  · rw [decide_eq_true h, Int.compare_eq_lt.2 h]; rfl
  · rw [decide_eq_false h]
    have : compare a b ≠ .lt := fun e => h (Int.compare_eq_lt.1 e)
    cases hc : compare a b
    · exact absurd hc this
    · rfl
    · rfl
end Fl
end Go.Proofs.Ytepbbaeamlimaab
