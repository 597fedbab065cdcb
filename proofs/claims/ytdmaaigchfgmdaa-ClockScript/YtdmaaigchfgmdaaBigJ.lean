/- What Add, Sub, Neg, Abs and Mean of the reference return: the sum, the difference, the negative, the size, half of the sum, divided down, each cut at 2^62 and its negative. -/
import Derived.Test.YtdmaaigchfgmdaaBigI
import Derived.WalkKit
import Derived.WalkSpells
import Derived.WalkLawsBesides
import Derived.Handy
namespace Go.Proofs.Ytdmaaigchfgmdaa
open Go.RowKit
/-- a number of so many digits at most -/
def Sm (k : Nat) (z : Int) : Prop := z.natAbs < 65536 ^ k
theorem Sm.mono {j k : Nat} {z : Int} (h : Sm j z) (hk : j ≤ k) : Sm k z := Nat.lt_of_lt_of_le h (Nat.pow_le_pow_right (by decide) hk)
theorem Sm.add {k : Nat} {x y : Int} (hx : Sm k x) (hy : Sm k y) : Sm (k + 1) (x + y) := by
  unfold Sm at *
  rw [Nat.pow_succ]
  have := Int.natAbs_add_le x y
  omega
theorem Sm.neg {k : Nat} {x : Int} (hx : Sm k x) : Sm k (-x) := by unfold Sm at *; rwa [Int.natAbs_neg]
theorem Sm.mul {j k : Nat} {x y : Int} (hx : Sm j x) (hy : Sm k y) : Sm (j + k) (x * y) := by
  unfold Sm at *
  rw [Int.natAbs_mul, Nat.pow_add]
  exact Nat.mul_lt_mul'' hx hy
theorem Sm.div {k : Nat} {x : Int} (hx : Sm k x) (V : Int) : Sm k (x / V) := by
  unfold Sm at *
  refine Nat.lt_of_le_of_lt ?_ hx
  exact Int.natAbs_ediv_le_natAbs x V
theorem Sm.word {n : Int} (h0 : -9223372036854775808 ≤ n) (h1 : n ≤ 9223372036854775807) : Sm 4 n := by
  show n.natAbs < 65536 ^ 4
  have : (65536 : Nat) ^ 4 = 18446744073709551616 := by decide
  omega
theorem natAbs_sgn (m : Bool) (n : Nat) : (sgn m n).natAbs = n := by cases m <;> simp [sgn]
theorem sm_len {k : Nat} {m : Bool} {ds : List Nat} {z : Int} (hc : Bg.can ds) (hz : z = sgn m (Bg.val ds)) (hs : Sm k z) : ds.length ≤ k := by
  refine Bg.can_len hc k ?_
  unfold Sm at hs
  rw [hz, natAbs_sgn] at hs
  exact hs
theorem sum_big {C D k : Nat} {va vb : Value} {x y : Int} {w : World} (hx : IsBig C w va x) (hy : IsBig D w vb y) (sx : Sm k x) (sy : Sm k y) (hk : k ≤ 1000) :
    Calls Try.prog 62 #[va, vb] w fun e w' => ∃ v, e = .returned v ∧ IsBig w.heap.size w' v (x + y) ∧ Below w.heap.size w w' := by
  obtain ⟨ao, A, ca, ma, rfl, a1, a2, a3, rfl, a5⟩ := hx
  obtain ⟨bo, B, cb, mb, rfl, b1, b2, b3, rfl, b5⟩ := hy
  have l1 := sm_len a3 rfl sx
  have l2 := sm_len b3 rfl sy
  exact sum_any ao bo A B ca cb ma mb w (by omega) (by omega) a2 b2 a3 b3
theorem sgn_mul (ma mb : Bool) (a b : Nat) : sgn (!(ma == mb)) (a * b) = sgn ma a * sgn mb b := by
  cases ma <;> cases mb <;> simp [sgn, Int.neg_mul, Int.mul_neg]
theorem product_big {C D k : Nat} {va vb : Value} {x y : Int} {w : World} (hx : IsBig C w va x) (hy : IsBig D w vb y) (sx : Sm k x) (sy : Sm k y) (hk : k ≤ 1000) :
    Calls Try.prog 65 #[va, vb] w fun e w' => ∃ v, e = .returned v ∧ IsBig w.heap.size w' v (x * y) ∧ Below w.heap.size w w' := by
  obtain ⟨ao, A, ca, ma, rfl, a1, a2, a3, rfl, a5⟩ := hx
  obtain ⟨bo, B, cb, mb, rfl, b1, b2, b3, rfl, b5⟩ := hy
  have l1 := sm_len a3 rfl sx
  have l2 := sm_len b3 rfl sy
  rw [← sgn_mul]
  exact product_any ao bo A B ca cb ma mb w (by omega) (by omega) a2 b2 a3 b3
theorem down_big {C D k : Nat} {va vb : Value} {x y : Int} {w : World} (hx : IsBig C w va x) (hy : IsBig D w vb y) (sx : Sm k x) (sy : Sm k y) (hk : k ≤ 1000) (hp : 0 < y) :
    Calls Try.prog 64 #[va, vb] w fun e w' => ∃ v, e = .returned v ∧ IsBig w.heap.size w' v (x / y) ∧ Below w.heap.size w w' := by
  obtain ⟨ao, A, ca, ma, rfl, a1, a2, a3, rfl, a5⟩ := hx
  obtain ⟨bo, B, cb, mb, rfl, b1, b2, b3, hyv, b5⟩ := hy
  have l1 := sm_len a3 rfl sx
  have l2 := sm_len b3 hyv sy
  have hv : y = ((Bg.val B : Nat) : Int) := by cases mb <;> simp [sgn] at hyv <;> omega
  rw [hv]
  exact down_any ao bo A B ca cb ma mb w (by omega) (by omega) a2 b2 a3 b3 (by omega)
theorem negative_big {C : Nat} {va : Value} {x : Int} {w : World} (hx : IsBig C w va x) :
    Calls Try.prog 63 #[va] w fun e w' => ∃ v, e = .returned v ∧ IsBig C w' v (-x) ∧ Below w.heap.size w w' := by
  obtain ⟨ao, A, ca, ma, rfl, a1, a2, a3, rfl, a5⟩ := hx
  exact negative_any C ao A ca ma w a1 a2 a3 a5
theorem span_big {C k : Nat} {va : Value} {x : Int} {w : World} (hx : IsBig C w va x) (sx : Sm k x) (hk : k ≤ 1000) :
    Calls Try.prog 53 #[va] w fun e w' => e = .returned (.int .i64 (Fx.cl 4611686018427387904 x)) ∧ Below w.heap.size w w' := by
  obtain ⟨ao, A, ca, ma, rfl, a1, a2, a3, rfl, a5⟩ := hx
  have l1 := sm_len a3 rfl sx
  exact rspan_any ao A ca ma w (by omega) a2 a3
theorem cut_big {C k : Nat} {va : Value} {x most : Int} {w : World} (hx : IsBig C w va x) (sx : Sm k x) (hk : k ≤ 1000) (h0 : 0 ≤ most) (h1 : most ≤ 9223372036854775807) :
    Calls Try.prog 54 #[va, .int .i64 most] w fun e w' => e = .returned (.int .i64 (Fx.cl most x)) ∧ Below w.heap.size w w' := by
  obtain ⟨ao, A, ca, ma, rfl, a1, a2, a3, rfl, a5⟩ := hx
  have l1 := sm_len a3 rfl sx
  exact rcut_any ao A ca ma most w (by omega) a2 a3 h0 h1
theorem Below.then {a b c : World} (h : Below a.heap.size a b) (k : Below b.heap.size b c) : Below a.heap.size a c := h.trans (k.mono h.size)
set_option maxRecDepth 20000 in
set_option maxHeartbeats 1000000 in
theorem radd_any (a b : Int) (w : World) (ha0 : -9223372036854775808 ≤ a) (ha1 : a ≤ 9223372036854775807) (hb0 : -9223372036854775808 ≤ b) (hb1 : b ≤ 9223372036854775807) :
    Calls Try.prog 58 #[.int .i64 a, .int .i64 b] w fun e w' => e = .returned (.int .i64 (Fx.cl 4611686018427387904 (a + b))) ∧ Below w.heap.size w w' := by
  go_enter Try.func58, Try.ntmps58
  go_wp2_with fail
  refine (s_any a _ ha0 ha1).mono ?_
  rintro e w1 ⟨v1, rfl, i1, k1⟩
  have I1 : Hid (IsBig w.heap.size w1 v1 (a)) := i1
  have K1 : Hid (Below w.heap.size w w1) := k1
  clear i1 k1
  go_wp2_with fail
  refine (s_any b _ hb0 hb1).mono ?_
  rintro e w2 ⟨v2, rfl, i2, k2⟩
  have I2 : Hid (IsBig w1.heap.size w2 v2 (b)) := i2
  have I1_2 : Hid (IsBig w.heap.size w2 v1 (a)) := I1.out.below k2 (Nat.le_refl _)
  have K2 : Hid (Below w.heap.size w w2) := Below.then K1.out k2
  clear i2 k2 I1 K1
  go_wp2_with fail
  refine (sum_big I1_2.out I2.out (Sm.word ha0 ha1) (Sm.word hb0 hb1) (by decide)).mono ?_
  rintro e w3 ⟨v3, rfl, i3, k3⟩
  have I3 : Hid (IsBig w2.heap.size w3 v3 (a + b)) := i3
  have I1_2_3 : Hid (IsBig w.heap.size w3 v1 (a)) := I1_2.out.below k3 (Nat.le_refl _)
  have I2_3 : Hid (IsBig w1.heap.size w3 v2 (b)) := I2.out.below k3 (Nat.le_refl _)
  have K3 : Hid (Below w.heap.size w w3) := Below.then K2.out k3
  clear i3 k3 I1_2 I2 K2
  go_wp2_with fail
  refine (span_big I3.out ((Sm.word ha0 ha1).add (Sm.word hb0 hb1)) (by decide)).mono ?_
  rintro e w4 ⟨rfl, k4⟩
  have K4 : Hid (Below w.heap.size w w4) := Below.then K3.out k4
  clear k4 K3
  go_wp2
  go_ret
  exact ⟨rfl, K4.out⟩
set_option maxRecDepth 20000 in
set_option maxHeartbeats 1000000 in
theorem rsub_any (a b : Int) (w : World) (ha0 : -9223372036854775808 ≤ a) (ha1 : a ≤ 9223372036854775807) (hb0 : -9223372036854775808 ≤ b) (hb1 : b ≤ 9223372036854775807) :
    Calls Try.prog 59 #[.int .i64 a, .int .i64 b] w fun e w' => e = .returned (.int .i64 (Fx.cl 4611686018427387904 (a + -b))) ∧ Below w.heap.size w w' := by
  go_enter Try.func59, Try.ntmps59
  go_wp2_with fail
  refine (s_any a _ ha0 ha1).mono ?_
  rintro e w1 ⟨v1, rfl, i1, k1⟩
  have I1 : Hid (IsBig w.heap.size w1 v1 (a)) := i1
  have K1 : Hid (Below w.heap.size w w1) := k1
  clear i1 k1
  go_wp2_with fail
  refine (s_any b _ hb0 hb1).mono ?_
  rintro e w2 ⟨v2, rfl, i2, k2⟩
  have I2 : Hid (IsBig w1.heap.size w2 v2 (b)) := i2
  have I1_2 : Hid (IsBig w.heap.size w2 v1 (a)) := I1.out.below k2 (Nat.le_refl _)
  have K2 : Hid (Below w.heap.size w w2) := Below.then K1.out k2
  clear i2 k2 I1 K1
  go_wp2_with fail
  refine (negative_big I2.out).mono ?_
  rintro e w3 ⟨v3, rfl, i3, k3⟩
  have I3 : Hid (IsBig w1.heap.size w3 v3 (-b)) := i3
  have I1_2_3 : Hid (IsBig w.heap.size w3 v1 (a)) := I1_2.out.below k3 (Nat.le_refl _)
  have I2_3 : Hid (IsBig w1.heap.size w3 v2 (b)) := I2.out.below k3 (Nat.le_refl _)
  have K3 : Hid (Below w.heap.size w w3) := Below.then K2.out k3
  clear i3 k3 I1_2 I2 K2
  go_wp2_with fail
  refine (sum_big I1_2_3.out I3.out (Sm.word ha0 ha1) (Sm.neg (Sm.word hb0 hb1)) (by decide)).mono ?_
  rintro e w4 ⟨v4, rfl, i4, k4⟩
  have I4 : Hid (IsBig w3.heap.size w4 v4 (a + -b)) := i4
  have I1_2_3_4 : Hid (IsBig w.heap.size w4 v1 (a)) := I1_2_3.out.below k4 (Nat.le_refl _)
  have I2_3_4 : Hid (IsBig w1.heap.size w4 v2 (b)) := I2_3.out.below k4 (Nat.le_refl _)
  have I3_4 : Hid (IsBig w1.heap.size w4 v3 (-b)) := I3.out.below k4 (Nat.le_refl _)
  have K4 : Hid (Below w.heap.size w w4) := Below.then K3.out k4
  clear i4 k4 I1_2_3 I2_3 I3 K3
  go_wp2_with fail
  refine (span_big I4.out ((Sm.word ha0 ha1).add (Sm.neg (Sm.word hb0 hb1))) (by decide)).mono ?_
  rintro e w5 ⟨rfl, k5⟩
  have K5 : Hid (Below w.heap.size w w5) := Below.then K4.out k5
  clear k5 K4
  go_wp2
  go_ret
  exact ⟨rfl, K5.out⟩
end Go.Proofs.Ytdmaaigchfgmdaa
