/- What Offset and Turn of package pulse return, and of the reference; Plus of stamps. -/
import Derived.Test.YtenlkadmniobdaaFixC
import Derived.Test.YtenlkadmniobdaaShift
import Derived.WalkKit
import Derived.WalkSpells
import Derived.WalkLawsBesides
import Derived.Handy
import Derived.Below
import Derived.Laws.BitsLemmas
namespace Go.Proofs.Ytenlkadmniobdaa
open Go.RowKit
/-- what a clock is off by -/
def ofs (t : Int) : Int := if t % 4294967296 ≤ 2147483648 then -(t % 4294967296) else 4294967296 - t % 4294967296
theorem ofs_bd (t : Int) : -2147483648 ≤ ofs t ∧ ofs t < 2147483648 := by unfold ofs; split <;> omega
/-- a stamp so far behind another one -/
def pl (t d : Int) : Int := (t + d) % 18446744073709551616
theorem pl_bd (t d : Int) : 0 ≤ pl t d ∧ pl t d < 18446744073709551616 := by unfold pl; omega
theorem pl_ofs (t : Int) : pl t (ofs t) % 4294967296 = 0 := by unfold pl ofs; split <;> omega
theorem and_low (n : Int) : bits .and .i64 n 4294967295 = n % 4294967296 := by
  have h : (BitVec.ofInt 64 4294967295).toNat = 2 ^ 32 - 1 := by decide
  have key : (BitVec.ofInt 64 n &&& BitVec.ofInt 64 4294967295).toNat = (n % ((2 ^ 64 : Nat) : Int)).toNat % 2 ^ 32 := by
    rw [BitVec.toNat_and, BitVec.toNat_ofInt, h, Nat.and_two_pow_sub_one_eq_mod]
  show IntKind.i64.wrap ((BitVec.ofInt 64 n &&& BitVec.ofInt 64 4294967295).toNat : Nat) = n % 4294967296
  rw [key, IntKind.wrap_i64]
  omega
theorem and_lowu (n : Int) : bits .and .u64 n 4294967295 = n % 4294967296 := by
  have h : (BitVec.ofInt 64 4294967295).toNat = 2 ^ 32 - 1 := by decide
  have key : (BitVec.ofInt 64 n &&& BitVec.ofInt 64 4294967295).toNat = (n % ((2 ^ 64 : Nat) : Int)).toNat % 2 ^ 32 := by
    rw [BitVec.toNat_and, BitVec.toNat_ofInt, h, Nat.and_two_pow_sub_one_eq_mod]
  show IntKind.u64.wrap ((BitVec.ofInt 64 n &&& BitVec.ofInt 64 4294967295).toNat : Nat) = n % 4294967296
  rw [key, IntKind.wrap_u64]
  omega
theorem and_three (n : Int) : bits .and .i64 n 3 = n % 4 := by
  have h : (BitVec.ofInt 64 3).toNat = 2 ^ 2 - 1 := by decide
  have key : (BitVec.ofInt 64 n &&& BitVec.ofInt 64 3).toNat = (n % ((2 ^ 64 : Nat) : Int)).toNat % 2 ^ 2 := by
    rw [BitVec.toNat_and, BitVec.toNat_ofInt, h, Nat.and_two_pow_sub_one_eq_mod]
  show IntKind.i64.wrap ((BitVec.ofInt 64 n &&& BitVec.ofInt 64 3).toNat : Nat) = n % 4
  rw [key, IntKind.wrap_i64]
  omega
set_option maxHeartbeats 400000 in
theorem offset_any (t : Int) (w : World) :
    Calls Try.prog 10 #[.int .u64 t] w fun e w' => e = .returned (.int .i64 (ofs t)) ∧ w' = w := by
  have ha := and_low
  go_enter Try.func10, Try.ntmps10
  go_wp2
  all_goals
    go_ret
    refine ⟨ret_i64 ?_, rfl⟩
    unfold ofs
    simp only [wrap64] at *
    split <;> omega
set_option maxHeartbeats 400000 in
theorem roffset_any (t : Int) (w : World) :
    Calls Try.prog 11 #[.int .u64 t] w fun e w' => e = .returned (.int .i64 (ofs t)) ∧ w' = w := by
  have ha := and_lowu
  go_enter Try.func11, Try.ntmps11
  go_wp2
  all_goals
    go_ret
    refine ⟨ret_i64 ?_, rfl⟩
    unfold ofs
    split <;> omega
set_option maxHeartbeats 400000 in
theorem plusS_any (t d : Int) (w : World) :
    Calls Try.prog 30 #[.int .u64 t, .int .i64 d] w fun e w' => e = .returned (.int .u64 (pl t d)) ∧ w' = w := by
  go_enter Try.func30, Try.ntmps30
  go_wp2
  go_ret
  exact ⟨ret_u64 (by unfold pl; simp only [IntKind.wrap_u64]; omega), rfl⟩
set_option maxHeartbeats 400000 in
theorem rplusS_any (t d : Int) (w : World) :
    Calls Try.prog 33 #[.int .u64 t, .int .i64 d] w fun e w' => e = .returned (.int .u64 (pl t d)) ∧ w' = w := by
  go_enter Try.func33, Try.ntmps33
  go_wp2
  go_ret
  exact ⟨ret_u64 (by unfold pl; simp only [IntKind.wrap_u64]; omega), rfl⟩
/-- a part's negative, as bits -/
def ng (x : Nat) : Nat := x ^^^ 9223372036854775808
theorem ng_ng (x : Nat) : ng (ng x) = x := by unfold ng; rw [Nat.xor_assoc, Nat.xor_self, Nat.xor_zero]
def tnR (a b : Nat) (k : Int) : Nat := if k % 4 = 1 then ng b else if k % 4 = 2 then ng a else if k % 4 = 3 then b else a
def tnI (a b : Nat) (k : Int) : Nat := if k % 4 = 1 then a else if k % 4 = 2 then ng b else if k % 4 = 3 then ng a else b
theorem four (k : Int) : k % 4 = 0 ∨ k % 4 = 1 ∨ k % 4 = 2 ∨ k % 4 = 3 := by omega
theorem tn_0 {a b : Nat} {k : Int} (h : k % 4 = 0) : tnR a b k = a ∧ tnI a b k = b := by unfold tnR tnI; rw [h]; simp
theorem tn_1 {a b : Nat} {k : Int} (h : k % 4 = 1) : tnR a b k = ng b ∧ tnI a b k = a := by unfold tnR tnI; rw [h]; simp
theorem tn_2 {a b : Nat} {k : Int} (h : k % 4 = 2) : tnR a b k = ng a ∧ tnI a b k = ng b := by unfold tnR tnI; rw [h]; simp
theorem tn_3 {a b : Nat} {k : Int} (h : k % 4 = 3) : tnR a b k = b ∧ tnI a b k = ng a := by unfold tnR tnI; rw [h]; simp
theorem tn_tn (a b : Nat) (j k l : Int) (h : (j + k) % 4 = l % 4) : tnR (tnR a b j) (tnI a b j) k = tnR a b l ∧ tnI (tnR a b j) (tnI a b j) k = tnI a b l := by
  rcases four j with hj | hj | hj | hj <;> rcases four k with hk | hk | hk | hk
  · rw [(tn_0 hj).1, (tn_0 hj).2, (tn_0 hk).1, (tn_0 hk).2, (tn_0 (show l % 4 = 0 by omega)).1, (tn_0 (show l % 4 = 0 by omega)).2]; exact ⟨rfl, rfl⟩
  · rw [(tn_0 hj).1, (tn_0 hj).2, (tn_1 hk).1, (tn_1 hk).2, (tn_1 (show l % 4 = 1 by omega)).1, (tn_1 (show l % 4 = 1 by omega)).2]; exact ⟨rfl, rfl⟩
  · rw [(tn_0 hj).1, (tn_0 hj).2, (tn_2 hk).1, (tn_2 hk).2, (tn_2 (show l % 4 = 2 by omega)).1, (tn_2 (show l % 4 = 2 by omega)).2]; exact ⟨rfl, rfl⟩
  · rw [(tn_0 hj).1, (tn_0 hj).2, (tn_3 hk).1, (tn_3 hk).2, (tn_3 (show l % 4 = 3 by omega)).1, (tn_3 (show l % 4 = 3 by omega)).2]; exact ⟨rfl, rfl⟩
  · rw [(tn_1 hj).1, (tn_1 hj).2, (tn_0 hk).1, (tn_0 hk).2, (tn_1 (show l % 4 = 1 by omega)).1, (tn_1 (show l % 4 = 1 by omega)).2]; exact ⟨rfl, rfl⟩
  · rw [(tn_1 hj).1, (tn_1 hj).2, (tn_1 hk).1, (tn_1 hk).2, (tn_2 (show l % 4 = 2 by omega)).1, (tn_2 (show l % 4 = 2 by omega)).2]; exact ⟨rfl, rfl⟩
  · rw [(tn_1 hj).1, (tn_1 hj).2, (tn_2 hk).1, (tn_2 hk).2, (tn_3 (show l % 4 = 3 by omega)).1, (tn_3 (show l % 4 = 3 by omega)).2, ng_ng]; exact ⟨rfl, rfl⟩
  · rw [(tn_1 hj).1, (tn_1 hj).2, (tn_3 hk).1, (tn_3 hk).2, (tn_0 (show l % 4 = 0 by omega)).1, (tn_0 (show l % 4 = 0 by omega)).2, ng_ng]; exact ⟨rfl, rfl⟩
  · rw [(tn_2 hj).1, (tn_2 hj).2, (tn_0 hk).1, (tn_0 hk).2, (tn_2 (show l % 4 = 2 by omega)).1, (tn_2 (show l % 4 = 2 by omega)).2]; exact ⟨rfl, rfl⟩
  · rw [(tn_2 hj).1, (tn_2 hj).2, (tn_1 hk).1, (tn_1 hk).2, (tn_3 (show l % 4 = 3 by omega)).1, (tn_3 (show l % 4 = 3 by omega)).2, ng_ng]; exact ⟨rfl, rfl⟩
  · rw [(tn_2 hj).1, (tn_2 hj).2, (tn_2 hk).1, (tn_2 hk).2, (tn_0 (show l % 4 = 0 by omega)).1, (tn_0 (show l % 4 = 0 by omega)).2, ng_ng, ng_ng]; exact ⟨rfl, rfl⟩
  · rw [(tn_2 hj).1, (tn_2 hj).2, (tn_3 hk).1, (tn_3 hk).2, (tn_1 (show l % 4 = 1 by omega)).1, (tn_1 (show l % 4 = 1 by omega)).2, ng_ng]; exact ⟨rfl, rfl⟩
  · rw [(tn_3 hj).1, (tn_3 hj).2, (tn_0 hk).1, (tn_0 hk).2, (tn_3 (show l % 4 = 3 by omega)).1, (tn_3 (show l % 4 = 3 by omega)).2]; exact ⟨rfl, rfl⟩
  · rw [(tn_3 hj).1, (tn_3 hj).2, (tn_1 hk).1, (tn_1 hk).2, (tn_0 (show l % 4 = 0 by omega)).1, (tn_0 (show l % 4 = 0 by omega)).2, ng_ng]; exact ⟨rfl, rfl⟩
  · rw [(tn_3 hj).1, (tn_3 hj).2, (tn_2 hk).1, (tn_2 hk).2, (tn_1 (show l % 4 = 1 by omega)).1, (tn_1 (show l % 4 = 1 by omega)).2, ng_ng]; exact ⟨rfl, rfl⟩
  · rw [(tn_3 hj).1, (tn_3 hj).2, (tn_3 hk).1, (tn_3 hk).2, (tn_2 (show l % 4 = 2 by omega)).1, (tn_2 (show l % 4 = 2 by omega)).2]; exact ⟨rfl, rfl⟩
theorem tm4 (k : Int) : -3 ≤ k.tmod 4 ∧ k.tmod 4 ≤ 3 ∧ (k.tmod 4) % 4 = k % 4 := by
  rcases Int.lt_or_le k 0 with h | h
  · have e : k.tmod 4 = -((-k) % 4) := by
      have : k = -(-k) := by omega
      rw [this, Int.neg_tmod, Int.tmod_eq_emod_of_nonneg (by omega), Int.neg_neg]
    rw [e]; omega
  · rw [Int.tmod_eq_emod_of_nonneg h]; omega
theorem run_neg (x : Nat) (v : World) : (Op.unary .neg (.float .f64 x)).run Try.prog v = .ok (.float .f64 (ng x)) v := by
  show Sem.run Try.prog (pure (Value.float .f64 (Op.negFloat .f64 x))) v = _
  have : Op.negFloat .f64 x = ng x := by unfold Op.negFloat ng; rfl
  rw [this]; rfl
theorem ret_c {a b c d : Nat} (h : a = c) (h' : b = d) : Ending.returned (.complex .f64 a b) = .returned (.complex .f64 c d) := by rw [h, h']
theorem ret2_f {a b c d : Nat} (h : a = c) (h' : b = d) : Ending.returned (.tuple #[.float .f64 a, .float .f64 b]) = .returned (.tuple #[.float .f64 c, .float .f64 d]) := by rw [h, h']
set_option maxHeartbeats 400000 in
theorem turn_any (a b : Nat) (k : Int) (w : World) :
    Calls Try.prog 14 #[.complex .f64 a b, .int .i64 k] w fun e w' => e = .returned (.complex .f64 (tnR a b k) (tnI a b k)) ∧ w' = w := by
  have hn := run_neg
  rcases four k with h | h | h | h
  · have hm : bits .and .i64 k 3 = 0 := (and_three k).trans h
    rw [(tn_0 h).1, (tn_0 h).2]
    go_enter Try.func14, Try.ntmps14
    go_wp2
    go_ret
    exact ⟨ret_c rfl rfl, rfl⟩
  · have hm : bits .and .i64 k 3 = 1 := (and_three k).trans h
    rw [(tn_1 h).1, (tn_1 h).2]
    go_enter Try.func14, Try.ntmps14
    go_wp2
    go_ret
    exact ⟨ret_c rfl rfl, rfl⟩
  · have hm : bits .and .i64 k 3 = 2 := (and_three k).trans h
    rw [(tn_2 h).1, (tn_2 h).2]
    go_enter Try.func14, Try.ntmps14
    go_wp2
    go_ret
    exact ⟨ret_c rfl rfl, rfl⟩
  · have hm : bits .and .i64 k 3 = 3 := (and_three k).trans h
    rw [(tn_3 h).1, (tn_3 h).2]
    go_enter Try.func14, Try.ntmps14
    go_wp2
    go_ret
    exact ⟨ret_c rfl rfl, rfl⟩
set_option maxHeartbeats 400000 in
theorem rturn_any (a b : Nat) (k : Int) (w : World) :
    Calls Try.prog 15 #[.float .f64 a, .float .f64 b, .int .i64 k] w fun e w' => e = .returned (.tuple #[.float .f64 (tnR a b k), .float .f64 (tnI a b k)]) ∧ w' = w := by
  have hn := run_neg
  obtain ⟨t0, t1, t2⟩ := tm4 k
  go_enter Try.func15, Try.ntmps15
  go_wp2
  all_goals
    go_loop [0, 1, 8] (fun x y n => ∃ (c d : Nat) (m : Int), x = .float .f64 c ∧ y = .float .f64 d ∧ n = .int .i64 m ∧ 0 ≤ m ∧ m ≤ 3 ∧ tnR c d m = tnR a b k ∧ tnI c d m = tnI a b k) (fun _ _ n => (intOf n).toNat)
    case atStart =>
      have e : ∀ m : Int, m % 4 = k % 4 → tnR a b m = tnR a b k ∧ tnI a b m = tnI a b k := fun m hm => by unfold tnR tnI; rw [hm]; exact ⟨rfl, rfl⟩
      exact ⟨a, b, _, rfl, rfl, rfl, by omega, by omega, (e _ (by omega)).1, (e _ (by omega)).2⟩
    case round =>
      obtain ⟨c, d, m, rfl, rfl, rfl, m0, m3, hr, hi⟩ := hrel
      have HR : Hid (tnR c d m = tnR a b k) := hr
      have HI : Hid (tnI c d m = tnI a b k) := hi
      clear hr hi
      by_cases hm : m = 0
      · subst hm
        go_wp2
        go_ret2
        rw [← HR.out, ← HI.out, (tn_0 rfl).1, (tn_0 rfl).2]
        exact ⟨ret2_f rfl rfl, rfl⟩
      · have hp : 0 < m := by omega
        have q := tn_tn c d 1 (m - 1) m (by congr 1; omega)
        rw [(tn_1 (show (1 : Int) % 4 = 1 by decide)).1, (tn_1 (show (1 : Int) % 4 = 1 by decide)).2] at q
        have Q : Hid (tnR (ng d) c (m - 1) = tnR c d m ∧ tnI (ng d) c (m - 1) = tnI c d m) := q
        clear q
        go_wp2
        go_round
        case rel => exact ⟨ng d, c, m - 1, rfl, rfl, rfl, by omega, by omega, Q.out.1.trans HR.out, Q.out.2.trans HI.out⟩
        case measure => simp [intOf]; omega
end Go.Proofs.Ytenlkadmniobdaa
