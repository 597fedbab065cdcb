/- Rules: which may be, of whom they speak; in numbers. -/
import Derived.Test.YtmgphfdieekpdaaEA
import Derived.Laws.Bits128
import Derived.Laws.BitsAllLaws
namespace Go.Proofs.Ytmgphfdieekpdaa
open Go Go.RowKit
/-- the bits of two numbers together -/
def orI (a b : Int) : Int := bits .or .i64 a b
theorem ofInt_wrap (x : BitVec 64) : BitVec.ofInt 64 (IntKind.i64.wrap (x.toNat : Int)) = x := by
  apply BitVec.eq_of_toNat_eq
  have hx := x.isLt
  rw [IntKind.wrap_i64, BitVec.toNat_ofInt]
  omega
theorem orI_def (a b : Int) : orI a b = IntKind.i64.wrap ((BitVec.ofInt 64 a ||| BitVec.ofInt 64 b).toNat : Int) := rfl
theorem orI_comm (a b : Int) : orI a b = orI b a := by rw [orI_def, orI_def, BitVec.or_comm]
theorem orI_assoc (a b c : Int) : orI (orI a b) c = orI a (orI b c) := by
  rw [orI_def a b, orI_def b c, orI_def, orI_def, ofInt_wrap, ofInt_wrap, BitVec.or_assoc]
theorem orI_zero (a : Int) (h0 : 0 ≤ a) (h1 : a ≤ 255) : orI 0 a = a := by
  rw [orI_def]
  have : BitVec.ofInt 64 0 = 0#64 := rfl
  rw [this, BitVec.zero_or, IntKind.wrap_i64, BitVec.toNat_ofInt]
  omega
theorem orI_nat (a b : Nat) (ha : a < 256) (hb : b < 256) : orI a b = ((a ||| b : Nat) : Int) := by
  have hx : a ||| b < 2 ^ 8 := Nat.or_lt_two_pow (by omega) (by omega)
  rw [orI_def, BitVec.toNat_or, BitVec.ofInt_natCast, BitVec.ofInt_natCast, BitVec.toNat_ofNat, BitVec.toNat_ofNat, Nat.mod_eq_of_lt (by omega), Nat.mod_eq_of_lt (by omega), IntKind.wrap_i64]
  omega
theorem orI_bd (a b : Int) (h0 : 0 ≤ a) (h1 : a ≤ 255) (g0 : 0 ≤ b) (g1 : b ≤ 255) : 0 ≤ orI a b ∧ orI a b ≤ 255 := by
  obtain ⟨x, rfl⟩ := Int.eq_ofNat_of_zero_le h0
  obtain ⟨y, rfl⟩ := Int.eq_ofNat_of_zero_le g0
  rw [orI_nat x y (by omega) (by omega)]
  have hx : x ||| y < 2 ^ 8 := Nat.or_lt_two_pow (by omega) (by omega)
  omega
/-- are there bits behind the first ones? -/
def bhB (a b : Int) : Bool := a % 2 ^ (32 - b).toNat != 0
def okB (r : Ru) : Bool := inB r.bits 0 32 && inB r.flags 0 255 && !bhB r.addr r.bits
def ckR (r : Ru) : Int := if okB r = true then 0 else 60
/-- are the first bits of both the same? -/
def spB (r : Ru) (x : Int) : Bool := decide (r.addr / 2 ^ (32 - r.bits).toNat = x / 2 ^ (32 - r.bits).toNat)
/-- one rule more -/
def mtS (x : Int) (s : Int × Int) (r : Ru) : Int × Int := if okB r = true ∧ spB r x = true then (if s.1 < r.bits then (r.bits, r.flags) else if r.bits < s.1 then s else (s.1, orI s.2 r.flags)) else s
def mtF (x : Int) (l : List Ru) : Int := (l.foldl (mtS x) (0, 0)).2
theorem mtS_comm (x : Int) (s : Int × Int) (a b : Ru) : mtS x (mtS x s a) b = mtS x (mtS x s b) a := by
  unfold mtS
  obtain ⟨m, f⟩ := s
  by_cases ha : okB a = true ∧ spB a x = true
  · by_cases hb : okB b = true ∧ spB b x = true
    · simp only [if_pos ha, if_pos hb]
      repeat' split
      all_goals first
        | rfl
        | (exfalso; simp only at *; omega)
        | (simp only at *; first | (exfalso; omega) | skip)
      all_goals
        refine Prod.ext ?_ ?_
      all_goals first
        | rfl
        | omega
        | (simp only; done)
        | (simp only; omega)
        | exact orI_comm _ _
        | (simp only; exact orI_comm _ _)
        | (simp only; rw [orI_assoc, orI_assoc, orI_comm b.flags])
    · simp only [if_neg hb]
  · simp only [if_neg ha]
theorem mtF_perm (x : Int) {l m : List Ru} (h : l.Perm m) : mtF x l = mtF x m := by
  unfold mtF
  rw [h.foldl_eq' (fun a _ b _ s => mtS_comm x s a b) (0, 0)]
theorem ok_bd {r : Ru} (h : okB r = true) : 0 ≤ r.bits ∧ r.bits ≤ 32 ∧ 0 ≤ r.flags ∧ r.flags ≤ 255 := by
  unfold okB inB at h
  simp only [Bool.and_eq_true, decide_eq_true_eq] at h
  omega
theorem mtF_neg (x : Int) (l : List Ru) : (l.foldl (mtS x) (-1, 0)).2 = mtF x l := by
  unfold mtF
  induction l with
  | nil => rfl
  | cons r t ih =>
    rw [List.foldl_cons, List.foldl_cons]
    by_cases h : okB r = true ∧ spB r x = true
    · obtain ⟨b0, b1, f0, f1⟩ := ok_bd h.1
      have e1 : mtS x (-1, 0) r = (r.bits, r.flags) := by unfold mtS; rw [if_pos h]; simp only; rw [if_pos (by omega)]
      have e2 : mtS x (0, 0) r = (r.bits, r.flags) := by
        unfold mtS; rw [if_pos h]; simp only
        by_cases hb : 0 < r.bits
        · rw [if_pos hb]
        · rw [if_neg hb, if_neg (by omega), orI_zero _ f0 f1]
          exact Prod.ext (by simp only; omega) rfl
      rw [e1, e2]
    · have e1 : ∀ s, mtS x s r = s := fun s => by unfold mtS; rw [if_neg h]
      rw [e1, e1, ih]
theorem mt_bd (x : Int) (l : List Ru) : ∀ s : Int × Int, -1 ≤ s.1 → s.1 ≤ 32 → 0 ≤ s.2 → s.2 ≤ 255 → -1 ≤ (l.foldl (mtS x) s).1 ∧ (l.foldl (mtS x) s).1 ≤ 32 ∧ 0 ≤ (l.foldl (mtS x) s).2 ∧ (l.foldl (mtS x) s).2 ≤ 255 := by
  induction l with
  | nil => intro s h1 h2 h3 h4; exact ⟨h1, h2, h3, h4⟩
  | cons r t ih =>
    intro s h1 h2 h3 h4
    rw [List.foldl_cons]
    have : -1 ≤ (mtS x s r).1 ∧ (mtS x s r).1 ≤ 32 ∧ 0 ≤ (mtS x s r).2 ∧ (mtS x s r).2 ≤ 255 := by
      unfold mtS
      split
      · rename_i h
        obtain ⟨b0, b1, f0, f1⟩ := ok_bd h.1
        have := orI_bd s.2 r.flags h3 h4 f0 f1
        (repeat' split) <;> first | omega | (simp only; omega)
      · omega
    exact ih _ this.1 this.2.1 this.2.2.1 this.2.2.2
/-- shifted up, cut to 32 bits: what is left are the bits behind the first ones -/
theorem behind_pure (a b : Nat) (hb : b ≤ 32) : (a * 2 ^ b) % 4294967296 = 2 ^ b * (a % 2 ^ (32 - b)) := by
  have e : 4294967296 = 2 ^ b * 2 ^ (32 - b) := by rw [← Nat.pow_add, Nat.add_sub_cancel' hb]
  rw [e, Nat.mul_comm a, Nat.mul_mod_mul_left]
theorem bh_shl (a b : Int) (h0 : 0 ≤ a) (b0 : 0 ≤ b) (b1 : b ≤ 32) : bhB a b = ((a * 2 ^ b.toNat) % 4294967296 != 0) := by
  obtain ⟨n, rfl⟩ := Int.eq_ofNat_of_zero_le h0
  obtain ⟨m, rfl⟩ := Int.eq_ofNat_of_zero_le b0
  have hm : m ≤ 32 := by omega
  have e1 : ((32 : Int) - (m : Int)).toNat = 32 - m := by omega
  have h := behind_pure n m hm
  unfold bhB
  rw [e1, Int.toNat_natCast]
  have h2 : ((n : Int) * 2 ^ m) % 4294967296 = (2 ^ m * (n % 2 ^ (32 - m)) : Nat) := by rw [← h]; simp
  rw [h2]
  have hp : 0 < 2 ^ m := Nat.pow_pos (by decide)
  rw [Bool.eq_iff_iff, bne_iff_ne, bne_iff_ne]
  have h3 : ((n : Int) % 2 ^ (32 - m)) = ((n % 2 ^ (32 - m) : Nat) : Int) := by simp
  rw [h3]
  constructor
  · intro hx hy
    have hy' : 2 ^ m * (n % 2 ^ (32 - m)) = 0 := by exact_mod_cast hy
    rcases Nat.mul_eq_zero.1 hy' with h4 | h4
    · omega
    · apply hx; rw [h4]; rfl
  · intro hx hy
    have hy' : n % 2 ^ (32 - m) = 0 := by exact_mod_cast hy
    apply hx
    rw [hy', Nat.mul_zero]; rfl
theorem xor_shr (a b k : Nat) : (a ^^^ b) / 2 ^ k = 0 ↔ a / 2 ^ k = b / 2 ^ k := by
  rw [← Nat.shiftRight_eq_div_pow, ← Nat.shiftRight_eq_div_pow, ← Nat.shiftRight_eq_div_pow, Nat.shiftRight_xor_distrib]
  constructor
  · intro h
    apply Nat.eq_of_testBit_eq
    intro i
    have := congrArg (fun x => x.testBit i) h
    simp only [Nat.testBit_xor, Nat.zero_testBit] at this
    revert this
    cases (a >>> k).testBit i <;> cases (b >>> k).testBit i <;> simp
  · intro h
    rw [h, Nat.xor_self]
/-- one bit more of the first ones -/
theorem top_step (a b : Nat) (k : Nat) : a / 2 ^ k = b / 2 ^ k ↔ (a / 2 ^ (k + 1) = b / 2 ^ (k + 1) ∧ a / 2 ^ k % 2 = b / 2 ^ k % 2) := by
  have e : ∀ x : Nat, x / 2 ^ (k + 1) = x / 2 ^ k / 2 := fun x => by rw [Nat.pow_succ, Nat.div_div_eq_div_mul]
  rw [e, e]; omega
theorem low_step (a k : Nat) : a % 2 ^ (k + 1) = 0 ↔ (a % 2 ^ k = 0 ∧ a / 2 ^ k % 2 = 0) := by
  have h1 : a % 2 ^ (k + 1) = a % 2 ^ k + 2 ^ k * (a / 2 ^ k % 2) := Nat.mod_pow_succ
  rw [h1]
  have hp : 0 < 2 ^ k := Nat.pow_pos (by decide)
  constructor
  · intro h
    have h2 : a % 2 ^ k = 0 := by omega
    rw [h2, Nat.zero_add] at h
    rcases Nat.mul_eq_zero.1 h with h3 | h3
    · omega
    · exact ⟨h2, h3⟩
  · rintro ⟨h2, h3⟩; rw [h2, h3]; rfl
end Go.Proofs.Ytmgphfdieekpdaa
