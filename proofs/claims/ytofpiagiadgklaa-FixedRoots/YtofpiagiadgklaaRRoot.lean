/- What Root of the reference returns: the whole root of the number times 2^32. -/
import Derived.Test.YtofpiagiadgklaaRmsF
import Derived.Test.YtofpiagiadgklaaBigR
import Derived.WalkKit
import Derived.WalkSpells
import Derived.WalkLawsBesides
import Derived.Handy
namespace Go.Proofs.Ytofpiagiadgklaa
open Go.RowKit
theorem Sm.two3 {m k : Nat} (h : m < 16 * k) : Sm k ((2 : Int) ^ m) := by
  unfold Sm
  rw [Int.natAbs_pow, show (65536 : Nat) = 2 ^ 16 from by decide, ← Nat.pow_mul]
  exact Nat.pow_lt_pow_right (by decide) h
theorem cl_nat (F : Nat) (h : F ≤ 4611686018427387904) : Fx.cl 4611686018427387904 (F : Int) = (F : Int) := Fx.cl_in (by omega) (by omega)
theorem Sm.small {F : Nat} (h : F ≤ 4611686018427387904) : Sm 4 (F : Int) := Sm.word (by omega) (by omega)
set_option maxHeartbeats 1000000 in
theorem rRoot_any (a : Int) (w : World) (ha0 : -9223372036854775808 ≤ a) (ha1 : a ≤ 9223372036854775807) :
    Calls Try.prog 31 #[.int .i64 a] w fun e w' => e = .returned (.int .i64 ((Sq.srt (a.toNat * 4294967296) : Nat) : Int)) ∧ Below w.heap.size w w' := by
  by_cases h : a ≤ 0
  · rw [show a.toNat = 0 from by omega]
    go_enter Try.func31, Try.ntmps31
    go_wp2
    go_ret
    exact ⟨rfl, Below.refl _ _⟩
  · obtain ⟨R, hR⟩ : ∃ R : Int, R = ((Sq.srt (a.toNat * 4294967296) : Nat) : Int) := ⟨_, rfl⟩
    rw [← hR]
    have HR : Hid (R = ((Sq.srt (a.toNat * 4294967296) : Nat) : Int)) := hR
    have hfd := field_run
    clear hR
    go_enter Try.func31, Try.ntmps31
    go_wp2_with fail
    refine (s_any a _ ha0 ha1).mono ?_
    rintro e w1 ⟨v1, rfl, i1, k1⟩
    have I1 : Hid (IsBig w.heap.size w1 v1 (a)) := i1
    have K1 : Hid (Below w.heap.size w w1) := k1
    clear i1 k1
    go_wp2_with fail
    refine (two_any 32 _ (by decide) (by decide)).mono ?_
    rintro e w2 ⟨v2, rfl, i2, k2⟩
    have I2 : Hid (IsBig w1.heap.size w2 v2 (2 ^ (32 : Int).toNat)) := i2
    have I1_2 : Hid (IsBig w.heap.size w2 v1 (a)) := I1.out.below k2 (Nat.le_refl _)
    have K2 : Hid (Below w.heap.size w w2) := Below.then K1.out k2
    clear i2 k2 I1 K1
    go_wp2_with fail
    refine (product_big I1_2.out I2.out (Sm.word ha0 ha1) (Sm.two3 (by decide : (32 : Int).toNat < 16 * 4)) (by decide)).mono ?_
    rintro e w3 ⟨v3, rfl, ⟨o, ds, c, m, rfl, t1, t2, t3, t4, t5⟩, k3⟩
    have hl : ds.length ≤ 4 + 4 := sm_len t3 t4 (Sm.mul (Sm.word ha0 ha1) (Sm.two3 (by decide : (32 : Int).toNat < 16 * 4)))
    have hl' : (ds.length : Int) ≤ 300 := by omega
    have hv : Bg.val ds = a.toNat * 4294967296 := by
      have e3 := natAbs_sgn m (Bg.val ds)
      rw [← t4, Int.natAbs_mul, show ((2 : Int) ^ (32 : Int).toNat).natAbs = 4294967296 from by decide] at e3
      rw [← e3]
      congr 1
      omega
    have F3 : Hid (Rd w3 o ds ∧ Bg.can ds ∧ Bg.val ds = a.toNat * 4294967296 ∧ Below w.heap.size w w3) := ⟨t2, t3, hv, Below.then K2.out k3⟩
    clear t1 t2 t3 t4 t5 k3 hl hv I1_2 I2 K2
    go_wp2_with fail
    refine (rroot_any o ds c w3 hl' F3.out.1 F3.out.2.1).mono ?_
    rintro e w4 ⟨v4, F, rfl, i4, f1, f2, k4⟩
    have hF : F = Sq.srt (a.toNat * 4294967296) := by rw [F3.out.2.2.1] at f1 f2; exact Sq.srt_eq f1 f2
    have hFl : F ≤ 4611686018427387904 := by
      rw [hF]; exact Sq.srt_le (by omega)
    have I4 : Hid (IsBig w3.heap.size w4 v4 (F : Int) ∧ F ≤ 4611686018427387904 ∧ (F : Int) = R ∧ Below w.heap.size w w4) := ⟨i4, hFl, by rw [HR.out, hF], Below.then F3.out.2.2.2 k4⟩
    clear i4 f1 f2 k4 hF hFl hfd
    go_wp2_with fail
    refine (span_big I4.out.1 (Sm.small I4.out.2.1) (by decide)).mono ?_
    rintro e w5 ⟨rfl, k5⟩
    have K5 : Hid (Below w.heap.size w w5) := Below.then I4.out.2.2.2 k5
    rw [cl_nat _ I4.out.2.1, I4.out.2.2.1]
    clear k5
    go_wp2
    go_ret
    exact ⟨rfl, K5.out⟩
end Go.Proofs.Ytofpiagiadgklaa
