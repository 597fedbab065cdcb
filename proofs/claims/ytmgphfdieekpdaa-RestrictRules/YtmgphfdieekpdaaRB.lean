/- Check, and whom a rule speaks of, of both. -/
import Derived.Test.YtmgphfdieekpdaaRA
import Derived.Deep.QuietTactic
import Derived.BigQuiet
namespace Go.Proofs.Ytmgphfdieekpdaa
open Go Go.RowKit
theorem ckR_pos {r : Ru} (h : okB r = true) : ckR r = 0 := if_pos h
theorem ckR_neg {r : Ru} (h : okB r = false) : ckR r = 60 := if_neg (by rw [h]; decide)
theorem ckR_shl (a b f : Int) (h0 : 0 ≤ a) (b0 : 0 ≤ b) (b1 : b ≤ 32) : ckR ⟨a, b, f⟩ = if 0 ≤ f ∧ f ≤ 255 ∧ (a * 2 ^ b.toNat) % 4294967296 = 0 then 0 else 60 := by
  unfold ckR okB
  have := bh_shl a b h0 b0 b1
  simp only [this]
  unfold inB
  by_cases h1 : 0 ≤ f ∧ f ≤ 255 ∧ (a * 2 ^ b.toNat) % 4294967296 = 0
  · rw [if_pos h1, if_pos (by simp [b0, b1, h1])]
  · rw [if_neg h1, if_neg (by simp [b0, b1]; intro h2 h3 h4; exact h1 ⟨h2, h3, h4⟩)]
theorem ckR_out (a b f : Int) (h : ¬ (0 ≤ b ∧ b ≤ 32)) : ckR ⟨a, b, f⟩ = 60 := by
  unfold ckR okB inB
  rw [if_neg (by simp [h])]
set_option maxHeartbeats 1000000 in
theorem check_any (a b f : Int) (w : World) (h0 : 0 ≤ a) : Calls Try.prog 12 #[.agg #[.int .u32 a, .int .i64 b, .int .i64 f]] w fun e w' => e = .returned (.int .i64 (ckR ⟨a, b, f⟩)) ∧ Below w.heap.size w w' := by
  obtain ⟨R, hR⟩ : ∃ R, R = ckR ⟨a, b, f⟩ := ⟨_, rfl⟩
  rw [← hR]
  by_cases hb : 0 ≤ b ∧ b ≤ 32
  · obtain ⟨b0, b1⟩ := hb
    rw [ckR_shl a b f h0 b0 b1] at hR
    have HP : Hid (R = if 0 ≤ f ∧ f ≤ 255 ∧ (a * 2 ^ b.toNat) % 4294967296 = 0 then 0 else 60) := hR
    clear hR
    go_enter Try.func12, Try.ntmps12
    go_wp2
    all_goals go_ret
    all_goals
      refine ⟨ret_int' ?_, (by repeat' (first | with_reducible exact Below.refl _ _ | with_reducible refine Below.setCell ?_ (by first | (simp; done) | (simp; omega) | omega) _ | with_reducible refine below_drewN ?_ _ | with_reducible refine Below.drew ?_ | with_reducible refine Below.alloc ?_ (by first | (simp; done) | (simp; omega) | omega) _))⟩
      rw [HP.out]
      split <;> first | rfl | omega | (simp_all; done) | (simp_all; omega)
  · rw [ckR_out a b f hb] at hR
    subst hR
    by_cases hb0 : 0 ≤ b
    all_goals
      go_enter Try.func12, Try.ntmps12
      go_wp2
      all_goals go_ret
      all_goals exact ⟨rfl, (by repeat' (first | with_reducible exact Below.refl _ _ | with_reducible refine Below.setCell ?_ (by first | (simp; done) | (simp; omega) | omega) _ | with_reducible refine below_drewN ?_ _ | with_reducible refine Below.drew ?_ | with_reducible refine Below.alloc ?_ (by first | (simp; done) | (simp; omega) | omega) _))⟩
theorem u32_xor (a x : Int) (h0 : 0 ≤ a) (h1 : a < 4294967296) (x0 : 0 ≤ x) (x1 : x < 4294967296) : bits BinOp.xor IntKind.u32 a x = ((a.toNat ^^^ x.toNat : Nat) : Int) := by
  obtain ⟨n, rfl⟩ := Int.eq_ofNat_of_zero_le h0
  obtain ⟨m, rfl⟩ := Int.eq_ofNat_of_zero_le x0
  have hx : n ^^^ m < 2 ^ 32 := Nat.xor_lt_two_pow (by omega) (by omega)
  show IntKind.u32.wrap ((BitVec.ofInt 32 (n : Int) ^^^ BitVec.ofInt 32 (m : Int)).toNat : Int) = _
  rw [BitVec.toNat_xor, BitVec.ofInt_natCast, BitVec.ofInt_natCast, BitVec.toNat_ofNat, BitVec.toNat_ofNat, Nat.mod_eq_of_lt (by omega), Nat.mod_eq_of_lt (by omega), IntKind.wrap_u32, Int.toNat_natCast, Int.toNat_natCast]
  omega
theorem spB_xor (a b x : Int) (f : Int) (a0 : 0 ≤ a) (x0 : 0 ≤ x) (X : Int) (hX : X = (a.toNat ^^^ x.toNat : Nat)) : spB ⟨a, b, f⟩ x = decide (X / 2 ^ (32 - b).toNat = 0) := by
  obtain ⟨n, rfl⟩ := Int.eq_ofNat_of_zero_le a0
  obtain ⟨m, rfl⟩ := Int.eq_ofNat_of_zero_le x0
  unfold spB
  rw [hX, Int.toNat_natCast, Int.toNat_natCast]
  have h := xor_shr n m (32 - b).toNat
  rw [Bool.eq_iff_iff, decide_eq_true_eq, decide_eq_true_eq]
  simp only
  have e1 : ∀ y : Nat, (y : Int) / 2 ^ (32 - b).toNat = ((y / 2 ^ (32 - b).toNat : Nat) : Int) := fun y => by simp
  rw [e1, e1, e1]
  constructor
  · intro h2; have := h.2 (by exact_mod_cast h2); rw [this]; rfl
  · intro h2; have := h.1 (by exact_mod_cast h2); rw [this]
set_option maxHeartbeats 1000000 in
theorem speaksOf_any (a b f x : Int) (w : World) (h0 : 0 ≤ a) (h1 : a < 4294967296) (x0 : 0 ≤ x) (x1 : x < 4294967296) (b0 : 0 ≤ b) (b1 : b ≤ 32) : Calls Try.prog 24 #[.agg #[.int .u32 a, .int .i64 b, .int .i64 f], .int .u32 x] w fun e w' => e = .returned (.bool (spB ⟨a, b, f⟩ x)) ∧ Below w.heap.size w w' := by
  obtain ⟨R, hR⟩ : ∃ R, R = spB ⟨a, b, f⟩ x := ⟨_, rfl⟩
  rw [← hR]
  rw [spB_xor a b x f h0 x0 (bits BinOp.xor IntKind.u32 a x) (u32_xor a x h0 h1 x0 x1)] at hR
  have HR : Hid (R = decide (bits BinOp.xor IntKind.u32 a x / 2 ^ (32 - b).toNat = 0)) := hR
  clear hR
  go_enter Try.func24, Try.ntmps24
  go_wp2
  go_ret
  exact ⟨ret_bool' (by rw [HR.out]; rfl), (by repeat' (first | with_reducible exact Below.refl _ _ | with_reducible refine Below.setCell ?_ (by first | (simp; done) | (simp; omega) | omega) _ | with_reducible refine below_drewN ?_ _ | with_reducible refine Below.drew ?_ | with_reducible refine Below.alloc ?_ (by first | (simp; done) | (simp; omega) | omega) _))⟩
theorem u32_and1 (n : Int) (h0 : 0 ≤ n) (h1 : n < 4294967296) : bits BinOp.and IntKind.u32 n 1 = n % 2 := by
  obtain ⟨m, rfl⟩ := Int.eq_ofNat_of_zero_le h0
  show IntKind.u32.wrap ((BitVec.ofInt 32 (m : Int) &&& BitVec.ofInt 32 1).toNat : Int) = _
  have e : BitVec.ofInt 32 1 = 1#32 := rfl
  rw [BitVec.toNat_and, e, BitVec.ofInt_natCast, BitVec.toNat_ofNat, Nat.mod_eq_of_lt (by omega), IntKind.wrap_u32]
  show ((m &&& 1 : Nat) : Int) % 4294967296 = _
  rw [Nat.and_one_is_mod]
  omega
theorem bit_div (a : Int) (k : Nat) (h0 : 0 ≤ a) (h1 : a < 4294967296) : bits BinOp.and IntKind.u32 (a / 2 ^ k) 1 = ((a.toNat / 2 ^ k % 2 : Nat) : Int) := by
  obtain ⟨m, rfl⟩ := Int.eq_ofNat_of_zero_le h0
  have e : (m : Int) / 2 ^ k = ((m / 2 ^ k : Nat) : Int) := by simp
  have hl : m / 2 ^ k ≤ m := Nat.div_le_self _ _
  rw [e, u32_and1 _ (Int.natCast_nonneg _) (by have : ((m / 2 ^ k : Nat) : Int) ≤ m := Int.ofNat_le.2 hl
                                               omega), Int.toNat_natCast]
  simp
theorem bh_nat (a b : Int) (h0 : 0 ≤ a) (b0 : 0 ≤ b) (b1 : b ≤ 32) : bhB a b = decide (a.toNat % 2 ^ (32 - b.toNat) ≠ 0) := by
  obtain ⟨n, rfl⟩ := Int.eq_ofNat_of_zero_le h0
  obtain ⟨m, rfl⟩ := Int.eq_ofNat_of_zero_le b0
  have e1 : ((32 : Int) - (m : Int)).toNat = 32 - m := by omega
  unfold bhB
  rw [e1, Int.toNat_natCast, Int.toNat_natCast, Bool.eq_iff_iff, bne_iff_ne, decide_eq_true_eq]
  have h3 : ((n : Int) % 2 ^ (32 - m)) = ((n % 2 ^ (32 - m) : Nat) : Int) := by simp
  rw [h3]; omega
set_option maxHeartbeats 1000000 in
theorem rcheck_any (a b f : Int) (w : World) (h0 : 0 ≤ a) (h1 : a < 4294967296) : Calls Try.prog 13 #[.agg #[.int .u32 a, .int .i64 b, .int .i64 f]] w fun e w' => e = .returned (.int .i64 (ckR ⟨a, b, f⟩)) ∧ Below w.heap.size w w' := by
  obtain ⟨R, hR⟩ : ∃ R, R = ckR ⟨a, b, f⟩ := ⟨_, rfl⟩
  rw [← hR]
  by_cases hb : (0 ≤ b ∧ b ≤ 32) ∧ 0 ≤ f ∧ f ≤ 255
  · obtain ⟨⟨b0, b1⟩, f0, f1⟩ := hb
    have HP : Hid (R = if a.toNat % 2 ^ (32 - b.toNat) = 0 then 0 else 60) := by
      show _ = _
      rw [hR]
      unfold ckR okB inB
      simp only [bh_nat a b h0 b0 b1]
      by_cases h2 : a.toNat % 2 ^ (32 - b.toNat) = 0
      · rw [if_pos h2, if_pos (by simp [h2, b0, b1, f0, f1])]
      · rw [if_neg h2, if_neg (by simp [h2])]
    clear hR
    go_enter Try.func13, Try.ntmps13
    go_wp2
    go_loopw [3] (fun i wr => ∃ (k : Nat), i = .int .i64 (k : Int) ∧ (k : Int) ≤ 32 - b ∧ wr = w.alloc (Obj.cells #[Value.int IntKind.u32 a, Value.int IntKind.i64 b, Value.int IntKind.i64 f] 26) ∧ Hid (a.toNat % 2 ^ k = 0)) (fun i _ => (32 - b - intOf i).toNat)
    case atStart => exact ⟨0, rfl, by omega, rfl, by show _ = _; omega⟩
    case round =>
      obtain ⟨k, rfl, hk, rfl, hz⟩ := hrel
      by_cases hlt : (k : Int) < 32 - b
      · obtain ⟨B, hB⟩ : ∃ B, B = bits BinOp.and IntKind.u32 (a / 2 ^ k) 1 := ⟨_, rfl⟩
        have eB : bits BinOp.and IntKind.u32 (a / 2 ^ k) 1 = B := hB.symm
        have hb2 : B = ((a.toNat / 2 ^ k % 2 : Nat) : Int) := by rw [hB, bit_div a k h0 h1]
        have HB2 : Hid (B = ((a.toNat / 2 ^ k % 2 : Nat) : Int)) := hb2
        clear hb2 hB
        have hls := low_step a.toNat k
        have HLS : Hid (a.toNat % 2 ^ (k + 1) = 0 ↔ (a.toNat % 2 ^ k = 0 ∧ a.toNat / 2 ^ k % 2 = 0)) := hls
        clear hls
        by_cases hB1 : B = 1
        · subst hB1
          go_wp2
          go_ret
          refine ⟨ret_int' ?_, (by repeat' (first | with_reducible exact Below.refl _ _ | with_reducible refine Below.setCell ?_ (by first | (simp; done) | (simp; omega) | omega) _ | with_reducible refine below_drewN ?_ _ | with_reducible refine Below.drew ?_ | with_reducible refine Below.alloc ?_ (by first | (simp; done) | (simp; omega) | omega) _))⟩
          rw [HP.out, if_neg]
          intro h5
          have h6 := HLS.out
          have h7 : a.toNat % 2 ^ (k + 1) = 0 := by
            have h8 : 2 ^ (k + 1) ∣ 2 ^ (32 - b.toNat) := Nat.pow_dvd_pow 2 (by omega)
            exact Nat.mod_eq_zero_of_dvd (Nat.dvd_trans h8 (Nat.dvd_of_mod_eq_zero h5))
          have h8 := (h6.1 h7).2
          have h9 := HB2.out
          omega
        · have hB1' : (B == 1) = false := by simpa using hB1
          go_wp2
          refine ⟨⟨k + 1, by go_num, by omega, by first | trivial | rfl, ?_⟩, by simp [intOf]; omega⟩
          exact HLS.out.2 ⟨hz.out, by have := HB2.out; omega⟩
      · go_wp2
        go_ret
        refine ⟨ret_int' ?_, (by repeat' (first | with_reducible exact Below.refl _ _ | with_reducible refine Below.setCell ?_ (by first | (simp; done) | (simp; omega) | omega) _ | with_reducible refine below_drewN ?_ _ | with_reducible refine Below.drew ?_ | with_reducible refine Below.alloc ?_ (by first | (simp; done) | (simp; omega) | omega) _))⟩
        rw [HP.out, if_pos]
        have e : k = 32 - b.toNat := by omega
        rw [← e]; exact hz.out
  · have hR2 : R = 60 := by
      rw [hR]; unfold ckR okB inB
      rw [if_neg]
      simp
      omega
    subst hR2
    clear hR
    have hc : b < 0 ∨ (0 ≤ b ∧ 32 < b) ∨ (0 ≤ b ∧ b ≤ 32 ∧ f < 0) ∨ (0 ≤ b ∧ b ≤ 32 ∧ 0 ≤ f ∧ 255 < f) := by omega
    clear hb
    rcases hc with h2 | ⟨h2, h3⟩ | ⟨h2, h3, h4⟩ | ⟨h2, h3, h4, h5⟩
    all_goals
      go_enter Try.func13, Try.ntmps13
      go_wp2
      go_ret
      exact ⟨rfl, (by repeat' (first | with_reducible exact Below.refl _ _ | with_reducible refine Below.setCell ?_ (by first | (simp; done) | (simp; omega) | omega) _ | with_reducible refine below_drewN ?_ _ | with_reducible refine Below.drew ?_ | with_reducible refine Below.alloc ?_ (by first | (simp; done) | (simp; omega) | omega) _))⟩
/-- how many of the first bits are the same -/
theorem sp_nat (a b f x : Int) (h0 : 0 ≤ a) (x0 : 0 ≤ x) (b0 : 0 ≤ b) (b1 : b ≤ 32) : spB ⟨a, b, f⟩ x = decide (a.toNat / 2 ^ (32 - b.toNat) = x.toNat / 2 ^ (32 - b.toNat)) := by
  obtain ⟨n, rfl⟩ := Int.eq_ofNat_of_zero_le h0
  obtain ⟨m, rfl⟩ := Int.eq_ofNat_of_zero_le x0
  obtain ⟨c, rfl⟩ := Int.eq_ofNat_of_zero_le b0
  have e1 : ((32 : Int) - (c : Int)).toNat = 32 - c := by omega
  unfold spB
  simp only
  rw [e1, Int.toNat_natCast, Int.toNat_natCast, Int.toNat_natCast, Bool.eq_iff_iff, decide_eq_true_eq, decide_eq_true_eq]
  have e2 : ∀ y : Nat, (y : Int) / 2 ^ (32 - c) = ((y / 2 ^ (32 - c) : Nat) : Int) := fun y => by simp
  rw [e2, e2]; omega
theorem top_all (a x : Nat) (k m : Nat) (hkm : k ≤ m) (h : a / 2 ^ k = x / 2 ^ k) : a / 2 ^ m = x / 2 ^ m := by
  obtain ⟨d, rfl⟩ : ∃ d, m = k + d := ⟨m - k, by omega⟩
  rw [Nat.pow_add, ← Nat.div_div_eq_div_mul, ← Nat.div_div_eq_div_mul, h]
set_option maxHeartbeats 1000000 in
theorem speaks_any (a b f x : Int) (w : World) (h0 : 0 ≤ a) (h1 : a < 4294967296) (x0 : 0 ≤ x) (x1 : x < 4294967296) (b0 : 0 ≤ b) (b1 : b ≤ 32) : Calls Try.prog 25 #[.agg #[.int .u32 a, .int .i64 b, .int .i64 f], .int .u32 x] w fun e w' => e = .returned (.bool (spB ⟨a, b, f⟩ x)) ∧ Below w.heap.size w w' := by
  obtain ⟨R, hR⟩ : ∃ R, R = spB ⟨a, b, f⟩ x := ⟨_, rfl⟩
  rw [← hR]
  rw [sp_nat a b f x h0 x0 b0 b1] at hR
  have HP : Hid (R = decide (a.toNat / 2 ^ (32 - b.toNat) = x.toNat / 2 ^ (32 - b.toNat))) := hR
  clear hR
  go_enter Try.func25, Try.ntmps25
  go_wp2
  go_loopw [5] (fun i wr => ∃ (k n : Nat), i = .int .i64 (k : Int) ∧ (k : Int) ≤ b ∧ wr = (w.alloc (Obj.cells #[Value.int IntKind.u32 a, Value.int IntKind.i64 b, Value.int IntKind.i64 f] 26)).drewN n ∧ Hid (a.toNat / 2 ^ (32 - k) = x.toNat / 2 ^ (32 - k))) (fun i _ => (b - intOf i).toNat)
  case atStart => exact ⟨0, 0, rfl, by omega, rfl, by show _ = _; rw [Nat.div_eq_of_lt (by omega), Nat.div_eq_of_lt (by omega)]⟩
  case round =>
    obtain ⟨k, n, rfl, hk, rfl, hz⟩ := hrel
    by_cases hlt : (k : Int) < b
    · obtain ⟨B, hB⟩ : ∃ B, B = bits BinOp.and IntKind.u32 (a / 2 ^ (31 - (k : Int)).toNat) 1 := ⟨_, rfl⟩
      obtain ⟨C, hC⟩ : ∃ C, C = bits BinOp.and IntKind.u32 (x / 2 ^ (31 - (k : Int)).toNat) 1 := ⟨_, rfl⟩
      have ek : (31 - (k : Int)).toNat = 31 - k := by omega
      have HB2 : Hid (B = ((a.toNat / 2 ^ (31 - k) % 2 : Nat) : Int)) := by show _ = _; rw [hB, ek, bit_div a _ h0 h1]
      have HC2 : Hid (C = ((x.toNat / 2 ^ (31 - k) % 2 : Nat) : Int)) := by show _ = _; rw [hC, ek, bit_div x _ x0 x1]
      have HT : Hid (a.toNat / 2 ^ (31 - k) = x.toNat / 2 ^ (31 - k) ↔ (a.toNat / 2 ^ (32 - k) = x.toNat / 2 ^ (32 - k) ∧ a.toNat / 2 ^ (31 - k) % 2 = x.toNat / 2 ^ (31 - k) % 2)) := by
        have := top_step a.toNat x.toNat (31 - k)
        rw [show 31 - k + 1 = 32 - k from by omega] at this
        exact this
      have eB : bits BinOp.and IntKind.u32 (a / 2 ^ (31 - k)) 1 = B := by rw [hB, ek]
      have eC : bits BinOp.and IntKind.u32 (x / 2 ^ (31 - k)) 1 = C := by rw [hC, ek]
      clear hB hC ek
      by_cases hBC : B = C
      · have hBC' : (B != C) = false := by simpa using hBC
        go_wp2
        go_quiet (fail)
        go_wp2
        refine ⟨⟨k + 1, _, by go_num, by omega, rfl, ?_⟩, by simp [intOf]; omega⟩
        have h5 := HB2.out; have h6 := HC2.out
        show _ = _
        rw [show 32 - (k + 1) = 31 - k from by omega]
        exact HT.out.2 ⟨hz.out, by omega⟩
      · have hBC' : (B != C) = true := by simpa using hBC
        go_wp2
        go_quiet (fail)
        go_wp2
        go_ret
        refine ⟨ret_bool' ?_, (by repeat' (first | with_reducible exact Below.refl _ _ | with_reducible refine Below.setCell ?_ (by first | (simp; done) | (simp; omega) | omega) _ | with_reducible refine below_drewN ?_ _ | with_reducible refine Below.drew ?_ | with_reducible refine Below.alloc ?_ (by first | (simp; done) | (simp; omega) | omega) _))⟩
        rw [HP.out]
        symm
        rw [decide_eq_false_iff_not]
        intro h5
        have h6 := HT.out.1 (top_all _ _ _ _ (by omega) h5)
        have h7 := HB2.out; have h8 := HC2.out
        exact hBC (by omega)
    · go_wp2
      go_ret
      refine ⟨ret_bool' ?_, (by repeat' (first | with_reducible exact Below.refl _ _ | with_reducible refine Below.setCell ?_ (by first | (simp; done) | (simp; omega) | omega) _ | with_reducible refine below_drewN ?_ _ | with_reducible refine Below.drew ?_ | with_reducible refine Below.alloc ?_ (by first | (simp; done) | (simp; omega) | omega) _))⟩
      rw [HP.out]
      symm
      rw [decide_eq_true_eq]
      have e : 32 - k = 32 - b.toNat := by omega
      rw [← e]; exact hz.out
end Go.Proofs.Ytmgphfdieekpdaa
