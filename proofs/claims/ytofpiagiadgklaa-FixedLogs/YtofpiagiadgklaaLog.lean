/- What Log of package fixed and Log of the reference return: one less than the number of bits, counted from a second. -/
import Derived.Test.YtofpiagiadgklaaBigT
import Derived.Test.YtofpiagiadgklaaShift
import Derived.WalkKit
import Derived.WalkSpells
import Derived.WalkLawsBesides
import Derived.Handy
namespace Go.Proofs.Ytofpiagiadgklaa
open Go.RowKit
set_option maxHeartbeats 400000 in
theorem log_any (a : Int) (w : World) (_ha0 : -9223372036854775808 ≤ a) (ha1 : a ≤ 9223372036854775807) :
    Calls Try.prog 13 #[.int .i64 a] w fun e w' => e = .returned (.int .i64 ((bitLen a.toNat : Int) - 33)) ∧ w' = w := by
  by_cases h : a ≤ 0
  · have hl : bitLen a.toNat = 0 := by rw [show a.toNat = 0 from by omega]; rfl
    have hl0 : Hid (bitLen a.toNat = 0) := hl
    clear hl
    by_cases h0 : a < 0
    · go_enter Try.func13, Try.ntmps13
      go_wp2_with (go_at_call 43; refine (len64_any 0 _ (by decide) (by decide)).mono ?_; rintro e w' ⟨rfl, hw⟩; subst hw)
      go_ret
      exact ⟨ret_i64 (by rw [hl0.out, show bitLen 0 = 0 from rfl, wrap64]; decide), rfl⟩
    · have e : a = 0 := by omega
      subst e
      go_enter Try.func13, Try.ntmps13
      go_wp2_with (go_at_call 43; refine (len64_any 0 _ (by decide) (by decide)).mono ?_; rintro e w' ⟨rfl, hw⟩; subst hw)
      go_ret
      exact ⟨ret_i64 (by rw [hl0.out, show bitLen 0 = 0 from rfl, wrap64]; decide), rfl⟩
  · have l := bl_le a (by omega) (by omega)
    have l' : (bitLen a.toNat : Int) ≤ 64 := by omega
    clear l
    go_enter Try.func13, Try.ntmps13
    go_wp2_with (go_at_call 43; refine (len64_any a _ (by omega) (by omega)).mono ?_; rintro e w' ⟨rfl, hw⟩; subst hw)
    go_ret
    exact ⟨rfl, rfl⟩
theorem Sm.two2 {m k : Nat} (h : m < 16 * k) : Sm k ((2 : Int) ^ m) := by
  unfold Sm
  rw [Int.natAbs_pow, show (65536 : Nat) = 2 ^ 16 from by decide, ← Nat.pow_mul]
  exact Nat.pow_lt_pow_right (by decide) h
theorem bl_eq (A m : Nat) (h0 : 2 ^ m ≤ A) (h1 : A < 2 ^ (m + 1)) : bitLen A = m + 1 := by
  obtain ⟨s1, s2⟩ := bitLen_spec A
  have hA : A ≠ 0 := by have := Nat.two_pow_pos m; omega
  have s3 := s2 hA
  rcases Nat.lt_trichotomy (bitLen A) (m + 1) with h | h | h
  · have := Nat.pow_le_pow_right (show 0 < 2 by decide) (show bitLen A ≤ m by omega)
    omega
  · exact h
  · have := Nat.pow_le_pow_right (show 0 < 2 by decide) (show m + 1 ≤ bitLen A - 1 by omega)
    omega
theorem pow_cap (m A : Nat) (h : 2 ^ m ≤ A) (hA : A < 9223372036854775808) : m ≤ 62 := by
  refine Nat.le_of_not_lt fun x => ?_
  have := Nat.pow_le_pow_right (show 0 < 2 by decide) (show 63 ≤ m from x)
  omega
set_option maxHeartbeats 1000000 in
theorem rlog_any (a : Int) (w : World) (ha0 : -9223372036854775808 ≤ a) (ha1 : a ≤ 9223372036854775807) :
    Calls Try.prog 14 #[.int .i64 a] w fun e w' => e = .returned (.int .i64 ((bitLen a.toNat : Int) - 33)) ∧ Below w.heap.size w w' := by
  by_cases h : a ≤ 0
  · have hl : bitLen a.toNat = 0 := by rw [show a.toNat = 0 from by omega]; rfl
    rw [hl]
    go_enter Try.func14, Try.ntmps14
    go_wp2
    go_ret
    exact ⟨rfl, Below.refl _ _⟩
  · obtain ⟨A, hA⟩ := Int.eq_ofNat_of_zero_le (show 0 ≤ a by omega)
    have hA' : Hid (a = (A : Int)) := hA
    obtain ⟨bl, hbl⟩ : ∃ bl : Int, bl = (bitLen a.toNat : Int) - 33 := ⟨_, rfl⟩
    rw [← hbl]
    have HBL : Hid (bl = (bitLen A : Int) - 33) := by show _ = _; rw [hbl, hA, Int.toNat_natCast]
    have hfd := field_run
    clear hA hbl
    go_enter Try.func14, Try.ntmps14
    go_wp2
    go_loopw [3] (fun i wr => ∃ (nn : Int) (m : Nat), i = .int .i64 nn ∧ -32 ≤ nn ∧ nn ≤ 30 ∧ Hid (nn + 32 = (m : Int) ∧ 2 ^ m ≤ A ∧ Below w.heap.size w wr)) (fun i _ => (31 - intOf i).toNat)
    case atStart => exact ⟨-32, 0, rfl, by decide, by decide, rfl, by have := hA'.out; simp; omega, Below.refl _ _⟩
    case round =>
      obtain ⟨nn, m, rfl, n0, n1, hH⟩ := hrel
      go_wp2_with fail
      refine (two_any (33 + nn) _ (by omega) (by omega)).mono ?_
      rintro e w1 ⟨v1, rfl, ⟨o, ds, c, ma, rfl, t1, t2, t3, t4, t5⟩, k1⟩
      have F1 : Hid (Rd w1 o ds ∧ Bg.can ds ∧ Bg.val ds = 2 ^ (m + 1) ∧ Below w.heap.size w w1) := by
        refine ⟨t2, t3, ?_, hH.out.2.2.trans (k1.mono hH.out.2.2.size)⟩
        have e1 : (33 + nn).toNat = m + 1 := by have := hH.out.1; omega
        rw [e1] at t4
        have e2 : ((2 ^ (m + 1) : Nat) : Int) = sgn ma (Bg.val ds) := by rw [← t4, Int.natCast_pow]; rfl
        have e3 := natAbs_sgn ma (Bg.val ds)
        rw [← e2] at e3
        simpa using e3.symm
      have hl1 : (ds.length : Int) ≤ 1000 := by
        have := sm_len t3 t4 (Sm.two2 (by omega : (33 + nn).toNat < 16 * 10)); omega
      clear t1 t2 t3 t4 t5 k1
      go_wp2_with fail
      refine (s_any a _ ha0 ha1).mono ?_
      rintro e w2 ⟨v2, rfl, ⟨p, es, c2, mb, rfl, t1, t2, t3, t4, t5⟩, k2⟩
      have F2 : Hid (Rd w2 p es ∧ Bg.can es ∧ Bg.val es = A ∧ Rd w2 o ds ∧ Below w.heap.size w w2) := by
        refine ⟨t2, t3, ?_, F1.out.1.below k2 (Nat.le_refl _), Below.then F1.out.2.2.2 k2⟩
        have e3 := natAbs_sgn mb (Bg.val es)
        rw [← t4, hA'.out] at e3
        simpa using e3.symm
      have hl2 : (es.length : Int) ≤ 1000 := by have := sm_len t3 t4 (Sm.word ha0 ha1); omega
      clear t1 t2 t3 t4 t5 k2
      go_wp2_with fail
      refine (compare_any o p ds es c c2 w2 (by omega) (by omega) F2.out.2.2.2.1 F2.out.1 F1.out.2.1 F2.out.2.1).mono ?_
      rintro e w3 ⟨r, rfl, hr, n, rfl⟩
      have CM : Hid ((r ≤ 0 → 2 ^ (m + 1) ≤ A) ∧ (¬ r ≤ 0 → A < 2 ^ (m + 1))) := by
        have e1 := F1.out.2.2.1
        have e2 := F2.out.2.2.1
        generalize 2 ^ (m + 1) = q at *
        exact ⟨fun _ => by omega, fun _ => by omega⟩
      clear hr
      by_cases hr0 : r ≤ 0
      · have hq := CM.out.1 hr0
        have hcap := pow_cap (m + 1) A hq (by have := hA'.out; omega)
        have hcap' : nn + 1 ≤ 30 := by have := hH.out.1; omega
        have HQ : Hid (2 ^ (m + 1) ≤ A) := hq
        clear hq hcap
        go_wp2
        go_roundw
        case rel => exact ⟨nn + 1, m + 1, rfl, by omega, by omega, by have := hH.out.1; omega, HQ.out, below_drewN F2.out.2.2.2.2 n⟩
        case measure => simp [intOf]; omega
      · have HQ : Hid (nn = bl) := by
          have h1 := bl_eq A m hH.out.2.1 (CM.out.2 hr0)
          have h2 := HBL.out
          have h3 := hH.out.1
          show _ = _
          omega
        go_wp2
        go_ret
        exact ⟨ret_i64 HQ.out, below_drewN F2.out.2.2.2.2 n⟩
end Go.Proofs.Ytofpiagiadgklaa
