/- Check, and whom a rule speaks of, of both. -/
import Derived.Test.YtmgphfdieekpdabRA
import Derived.Deep.QuietTactic
import Derived.BigQuiet
namespace Go.Proofs.Ytmgphfdieekpdab
open Go Go.RowKit
theorem ckR_pos {r : Ru} (h : okB r = true) : ckR r = 0 := if_pos h
theorem ckR_neg {r : Ru} (h : okB r = false) : ckR r = 60 := if_neg (by rw [h]; decide)
theorem ckR_shl (a b f : Int) (h0 : 0 ≤ a) (b0 : 0 ≤ b) (b1 : b ≤ 32) : ckR ⟨a, b, f⟩ = if 0 ≤ f ∧ f ≤ 255 ∧ (a * 2 ^ b.toNat) % 4294967296 = 0 then 0 else 60 := by
  unfold ckR okB
  have := bh_shl a b h0 b0 b1
  simp only [this]
  unfold inB
  by_cases h1 : 0 ≤ f ∧ f ≤ 255 ∧ (a * 2 ^ b.toNat) % 4294967296 = 0
  · rw [if_pos h1, if_pos (by simp [b0, b1, h1])]
  · rw [if_neg h1, if_neg (by simp [b0, b1]; intro h2 h3 h4; exact h1 ⟨h2, h3, h4⟩)]
theorem ckR_out (a b f : Int) (h : ¬ (0 ≤ b ∧ b ≤ 32)) : ckR ⟨a, b, f⟩ = 60 := by
  unfold ckR okB inB
  rw [if_neg (by simp [h])]
set_option maxHeartbeats 1000000 in
theorem check_any (a b f : Int) (w : World) (h0 : 0 ≤ a) : Calls Try.prog 20 #[.agg #[.int .u32 a, .int .i64 b, .int .i64 f]] w fun e w' => e = .returned (.int .i64 (ckR ⟨a, b, f⟩)) ∧ Below w.heap.size w w' := by
  obtain ⟨R, hR⟩ : ∃ R, R = ckR ⟨a, b, f⟩ := ⟨_, rfl⟩
  rw [← hR]
  by_cases hb : 0 ≤ b ∧ b ≤ 32
  · obtain ⟨b0, b1⟩ := hb
    rw [ckR_shl a b f h0 b0 b1] at hR
    have HP : Hid (R = if 0 ≤ f ∧ f ≤ 255 ∧ (a * 2 ^ b.toNat) % 4294967296 = 0 then 0 else 60) := hR
    clear hR
    go_enter Try.func20, Try.ntmps20
    go_wp2
    all_goals go_ret
    all_goals
      refine ⟨ret_int' ?_, (by repeat' (first | with_reducible exact Below.refl _ _ | with_reducible refine Below.setCell ?_ (by first | (simp; done) | (simp; omega) | omega) _ | with_reducible refine below_drewN ?_ _ | with_reducible refine Below.drew ?_ | with_reducible refine Below.alloc ?_ (by first | (simp; done) | (simp; omega) | omega) _))⟩
      rw [HP.out]
      split <;> first | rfl | omega | (simp_all; done) | (simp_all; omega)
  · rw [ckR_out a b f hb] at hR
    subst hR
    by_cases hb0 : 0 ≤ b
    all_goals
      go_enter Try.func20, Try.ntmps20
      go_wp2
      all_goals go_ret
      all_goals exact ⟨rfl, (by repeat' (first | with_reducible exact Below.refl _ _ | with_reducible refine Below.setCell ?_ (by first | (simp; done) | (simp; omega) | omega) _ | with_reducible refine below_drewN ?_ _ | with_reducible refine Below.drew ?_ | with_reducible refine Below.alloc ?_ (by first | (simp; done) | (simp; omega) | omega) _))⟩
theorem u32_xor (a x : Int) (h0 : 0 ≤ a) (h1 : a < 4294967296) (x0 : 0 ≤ x) (x1 : x < 4294967296) : bits BinOp.xor IntKind.u32 a x = ((a.toNat ^^^ x.toNat : Nat) : Int) := by
  obtain ⟨n, rfl⟩ := Int.eq_ofNat_of_zero_le h0
  obtain ⟨m, rfl⟩ := Int.eq_ofNat_of_zero_le x0
  have hx : n ^^^ m < 2 ^ 32 := Nat.xor_lt_two_pow (by omega) (by omega)
  show IntKind.u32.wrap ((BitVec.ofInt 32 (n : Int) ^^^ BitVec.ofInt 32 (m : Int)).toNat : Int) = _
  rw [BitVec.toNat_xor, BitVec.ofInt_natCast, BitVec.ofInt_natCast, BitVec.toNat_ofNat, BitVec.toNat_ofNat, Nat.mod_eq_of_lt (by omega), Nat.mod_eq_of_lt (by omega), IntKind.wrap_u32, Int.toNat_natCast, Int.toNat_natCast]
  omega
theorem spB_xor (a b x : Int) (f : Int) (a0 : 0 ≤ a) (x0 : 0 ≤ x) (X : Int) (hX : X = (a.toNat ^^^ x.toNat : Nat)) : spB ⟨a, b, f⟩ x = decide (X / 2 ^ (32 - b).toNat = 0) := by
  obtain ⟨n, rfl⟩ := Int.eq_ofNat_of_zero_le a0
  obtain ⟨m, rfl⟩ := Int.eq_ofNat_of_zero_le x0
  unfold spB
  rw [hX, Int.toNat_natCast, Int.toNat_natCast]
  have h := xor_shr n m (32 - b).toNat
  rw [Bool.eq_iff_iff, decide_eq_true_eq, decide_eq_true_eq]
  simp only
  have e1 : ∀ y : Nat, (y : Int) / 2 ^ (32 - b).toNat = ((y / 2 ^ (32 - b).toNat : Nat) : Int) := fun y => by simp
  rw [e1, e1, e1]
  constructor
  · intro h2; have := h.2 (by exact_mod_cast h2); rw [this]; rfl
  · intro h2; have := h.1 (by exact_mod_cast h2); rw [this]
set_option maxHeartbeats 1000000 in
theorem speaksOf_any (a b f x : Int) (w : World) (h0 : 0 ≤ a) (h1 : a < 4294967296) (x0 : 0 ≤ x) (x1 : x < 4294967296) (b0 : 0 ≤ b) (b1 : b ≤ 32) : Calls Try.prog 21 #[.agg #[.int .u32 a, .int .i64 b, .int .i64 f], .int .u32 x] w fun e w' => e = .returned (.bool (spB ⟨a, b, f⟩ x)) ∧ Below w.heap.size w w' := by
  obtain ⟨R, hR⟩ : ∃ R, R = spB ⟨a, b, f⟩ x := ⟨_, rfl⟩
  rw [← hR]
  rw [spB_xor a b x f h0 x0 (bits BinOp.xor IntKind.u32 a x) (u32_xor a x h0 h1 x0 x1)] at hR
  have HR : Hid (R = decide (bits BinOp.xor IntKind.u32 a x / 2 ^ (32 - b).toNat = 0)) := hR
  clear hR
  go_enter Try.func21, Try.ntmps21
  go_wp2
  go_ret
  exact ⟨ret_bool' (by rw [HR.out]; rfl), (by repeat' (first | with_reducible exact Below.refl _ _ | with_reducible refine Below.setCell ?_ (by first | (simp; done) | (simp; omega) | omega) _ | with_reducible refine below_drewN ?_ _ | with_reducible refine Below.drew ?_ | with_reducible refine Below.alloc ?_ (by first | (simp; done) | (simp; omega) | omega) _))⟩
theorem u32_and1 (n : Int) (h0 : 0 ≤ n) (h1 : n < 4294967296) : bits BinOp.and IntKind.u32 n 1 = n % 2 := by
  obtain ⟨m, rfl⟩ := Int.eq_ofNat_of_zero_le h0
  show IntKind.u32.wrap ((BitVec.ofInt 32 (m : Int) &&& BitVec.ofInt 32 1).toNat : Int) = _
  have e : BitVec.ofInt 32 1 = 1#32 := rfl
  rw [BitVec.toNat_and, e, BitVec.ofInt_natCast, BitVec.toNat_ofNat, Nat.mod_eq_of_lt (by omega), IntKind.wrap_u32]
  show ((m &&& 1 : Nat) : Int) % 4294967296 = _
  rw [Nat.and_one_is_mod]
  omega
theorem bit_div (a : Int) (k : Nat) (h0 : 0 ≤ a) (h1 : a < 4294967296) : bits BinOp.and IntKind.u32 (a / 2 ^ k) 1 = ((a.toNat / 2 ^ k % 2 : Nat) : Int) := by
  obtain ⟨m, rfl⟩ := Int.eq_ofNat_of_zero_le h0
  have e : (m : Int) / 2 ^ k = ((m / 2 ^ k : Nat) : Int) := by simp
  have hl : m / 2 ^ k ≤ m := Nat.div_le_self _ _
  rw [e, u32_and1 _ (Int.natCast_nonneg _) (by have : ((m / 2 ^ k : Nat) : Int) ≤ m := Int.ofNat_le.2 hl
                                               omega), Int.toNat_natCast]
  simp
theorem bh_nat (a b : Int) (h0 : 0 ≤ a) (b0 : 0 ≤ b) (b1 : b ≤ 32) : bhB a b = decide (a.toNat % 2 ^ (32 - b.toNat) ≠ 0) := by
  obtain ⟨n, rfl⟩ := Int.eq_ofNat_of_zero_le h0
  obtain ⟨m, rfl⟩ := Int.eq_ofNat_of_zero_le b0
  have e1 : ((32 : Int) - (m : Int)).toNat = 32 - m := by omega
  unfold bhB
  rw [e1, Int.toNat_natCast, Int.toNat_natCast, Bool.eq_iff_iff, bne_iff_ne, decide_eq_true_eq]
  have h3 : ((n : Int) % 2 ^ (32 - m)) = ((n % 2 ^ (32 - m) : Nat) : Int) := by simp
  rw [h3]; omega
/-- how many of the first bits are the same -/
theorem sp_nat (a b f x : Int) (h0 : 0 ≤ a) (x0 : 0 ≤ x) (b0 : 0 ≤ b) (b1 : b ≤ 32) : spB ⟨a, b, f⟩ x = decide (a.toNat / 2 ^ (32 - b.toNat) = x.toNat / 2 ^ (32 - b.toNat)) := by
  obtain ⟨n, rfl⟩ := Int.eq_ofNat_of_zero_le h0
  obtain ⟨m, rfl⟩ := Int.eq_ofNat_of_zero_le x0
  obtain ⟨c, rfl⟩ := Int.eq_ofNat_of_zero_le b0
  have e1 : ((32 : Int) - (c : Int)).toNat = 32 - c := by omega
  unfold spB
  simp only
  rw [e1, Int.toNat_natCast, Int.toNat_natCast, Int.toNat_natCast, Bool.eq_iff_iff, decide_eq_true_eq, decide_eq_true_eq]
  have e2 : ∀ y : Nat, (y : Int) / 2 ^ (32 - c) = ((y / 2 ^ (32 - c) : Nat) : Int) := fun y => by simp
  rw [e2, e2]; omega
theorem top_all (a x : Nat) (k m : Nat) (hkm : k ≤ m) (h : a / 2 ^ k = x / 2 ^ k) : a / 2 ^ m = x / 2 ^ m := by
  obtain ⟨d, rfl⟩ : ∃ d, m = k + d := ⟨m - k, by omega⟩
  rw [Nat.pow_add, ← Nat.div_div_eq_div_mul, ← Nat.div_div_eq_div_mul, h]
end Go.Proofs.Ytmgphfdieekpdab
