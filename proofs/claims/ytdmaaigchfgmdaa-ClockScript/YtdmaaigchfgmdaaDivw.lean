/- Math/bits.Div64 returns quotient and rest of the number in two words, where the high word is above 0 and below the divisor. -/
import Derived.Test.YtdmaaigchfgmdaaDivm
import Derived.WalkKit
import Derived.WalkSpells
import Derived.WalkLawsBesides
import Derived.Deep.CutBlock
import Derived.Deep.DeepCutAuto
namespace Go.Proofs.Ytdmaaigchfgmdaa
open Go.RowKit FxDiv
theorem wrap_nat (a : Nat) : IntKind.u64.wrap (a : Int) = ((a % 18446744073709551616 : Nat) : Int) := by rw [IntKind.wrap_u64]; omega
theorem wrap_shl (a s : Nat) : IntKind.u64.wrap ((a : Int) * 2 ^ s) = ((a * 2 ^ s % 18446744073709551616 : Nat) : Int) := by
  rw [show (a : Int) * 2 ^ s = ((a * 2 ^ s : Nat) : Int) from by rw [Int.natCast_mul, Int.natCast_pow]; rfl, wrap_nat]
theorem start_q (u y1 : Nat) (hu : u < 18446744073709551616) : IntKind.u64.wrap ((u : Int) / (y1 : Int)) = ((u / y1 : Nat) : Int) := by
  rw [← Int.natCast_ediv, wrap_nat, Nat.mod_eq_of_lt (Nat.lt_of_le_of_lt (Nat.div_le_self u y1) hu)]
theorem start_r (u y1 : Nat) (hu : u < 18446744073709551616) : IntKind.u64.wrap ((u : Int) - IntKind.u64.wrap (IntKind.u64.wrap ((u : Int) / (y1 : Int)) * (y1 : Int))) = ((u % y1 : Nat) : Int) := by
  rw [start_q u y1 hu, ← Int.natCast_mul, wrap_nat]
  have h1 : u / y1 * y1 ≤ u := Nat.div_mul_le_self u y1
  have h2 : u / y1 * y1 + u % y1 = u := Nat.div_add_mod' u y1
  rw [Nat.mod_eq_of_lt (by omega), IntKind.wrap_u64]
  omega
/-- a rest, reckoned with wraps -/
theorem rest_u64 (u d q Y R : Nat) (hR : R < 18446744073709551616) (h : u * 4294967296 + d = q * Y + R) :
    IntKind.u64.wrap (IntKind.u64.wrap (IntKind.u64.wrap ((u : Int) * 4294967296) + (d : Int)) - IntKind.u64.wrap ((q : Int) * (Y : Int))) = (R : Int) := by
  rw [← Int.natCast_mul]
  generalize q * Y = p at *
  simp only [IntKind.wrap_u64]
  omega
theorem div_fin (hi lo y s Y u L d1 d0 q1 R q0 R0 : Nat) (hs : s ≤ 63) (hY : Y = y * 2 ^ s) (hu : u = hi * 2 ^ s + lo / 2 ^ (64 - s)) (hL : L = lo * 2 ^ s % 18446744073709551616)
    (hLs : L = d1 * 4294967296 + d0) (h1 : u * 4294967296 + d1 = q1 * Y + R) (h0 : R * 4294967296 + d0 = q0 * Y + R0) (hR : R0 < Y) :
    (q1 : Int) * 4294967296 + (q0 : Int) = (((hi * 18446744073709551616 + lo) / y : Nat) : Int) ∧ (R0 : Int) / 2 ^ s = (((hi * 18446744073709551616 + lo) % y : Nat) : Int) := by
  obtain ⟨t1, t2⟩ := two Y u d1 d0 q1 R q0 R0 h1 h0 hR
  rw [← hLs, hL, hu, ← words hi lo s (by omega), hY] at t1 t2
  obtain ⟨s1, s2⟩ := shifted (hi * 18446744073709551616 + lo) y s
  rw [t1] at s1
  rw [t2] at s2
  rw [← s1, ← s2, Int.natCast_add, Int.natCast_mul, Int.natCast_ediv, Int.natCast_pow]
  exact ⟨rfl, rfl⟩
set_option maxHeartbeats 400000 in
set_option maxRecDepth 100000 in
theorem div64_pos (hi lo y : Nat) (w : World) (h0 : 0 < hi) (h : hi < y) (hl : lo < 18446744073709551616) (hy : y < 18446744073709551616) :
    Calls Try.prog 94 #[.int .u64 hi, .int .u64 lo, .int .u64 y] w fun e w' => e = .returned (.tuple #[.int .u64 (((hi * 18446744073709551616 + lo) / y : Nat) : Int), .int .u64 (((hi * 18446744073709551616 + lo) % y : Nat) : Int)]) ∧ w' = w := by
  have c1 : ((y : Int) == 0) = false := beq_eq_false_iff_ne.2 (by omega)
  have c2 : ((hi : Int) == 0) = false := beq_eq_false_iff_ne.2 (by omega)
  go_enter Try.func94, Try.ntmps94
  go_wp2_with fail
  refine (lz64_s y _ (by omega) hy).mono ?_
  rintro e w1 ⟨s, rfl, hs, hs1, hs2, rfl⟩
  obtain ⟨Y, hY⟩ : ∃ Y, Y = y * 2 ^ s := ⟨_, rfl⟩
  obtain ⟨u, hu⟩ : ∃ u, u = hi * 2 ^ s + lo / 2 ^ (64 - s) := ⟨_, rfl⟩
  obtain ⟨L, hL⟩ : ∃ L, L = lo * 2 ^ s % 18446744073709551616 := ⟨_, rfl⟩
  have ult : u < Y := by rw [hu, hY]; exact high_lt hi lo y s (by omega) hl h
  have Llt : L < 18446744073709551616 := by rw [hL]; exact Nat.mod_lt _ (by omega)
  rw [← hY] at hs1 hs2
  have eY : IntKind.u64.wrap ((y : Int) * 2 ^ s) = (Y : Int) := by rw [wrap_shl, ← hY, Nat.mod_eq_of_lt hs2]
  have eL : IntKind.u64.wrap ((lo : Int) * 2 ^ s) = (L : Int) := by rw [wrap_shl, ← hL]
  have hH : hi * 2 ^ s < 18446744073709551616 := by have := Nat.le_add_right (hi * 2 ^ s) (lo / 2 ^ (64 - s)); rw [← hu] at this; omega
  have eU : bits .or .u64 (IntKind.u64.wrap ((hi : Int) * 2 ^ s)) ((lo : Int) / 2 ^ (64 - s)) = (u : Int) := by
    rw [wrap_shl, Nat.mod_eq_of_lt hH, show (lo : Int) / 2 ^ (64 - s) = ((lo / 2 ^ (64 - s) : Nat) : Int) from by rw [Int.natCast_ediv, Int.natCast_pow]; rfl, hu]
    refine or_add _ _ _ ?_ (by rw [← hu]; omega)
    rw [Nat.div_lt_iff_lt_mul (Nat.two_pow_pos _), ← Nat.pow_add, show s + (64 - s) = 64 from by omega]
    exact hl
  obtain ⟨y1, hy1⟩ : ∃ y1, y1 = Y / 4294967296 := ⟨_, rfl⟩
  obtain ⟨y0, hy0⟩ : ∃ y0, y0 = Y % 4294967296 := ⟨_, rfl⟩
  obtain ⟨d1, hd1⟩ : ∃ d1, d1 = L / 4294967296 := ⟨_, rfl⟩
  obtain ⟨d0, hd0⟩ : ∃ d0, d0 = L % 4294967296 := ⟨_, rfl⟩
  have ey1 : (Y : Int) / 4294967296 = (y1 : Int) := by omega
  have ey0 : bits .and .u64 (Y : Int) 4294967295 = (y0 : Int) := by rw [and_low32 _ (by omega) (by omega)]; omega
  have ed1 : (L : Int) / 4294967296 = (d1 : Int) := by omega
  have ed0 : bits .and .u64 (L : Int) 4294967295 = (d0 : Int) := by rw [and_low32 _ (by omega) (by omega)]; omega
  have by1 : 2147483648 ≤ y1 ∧ y1 < 4294967296 := by omega
  have by0 : y0 < 4294967296 := by omega
  have bd1 : d1 < 4294967296 := by omega
  have bd0 : d0 < 4294967296 := by omega
  have cy1 : ((y1 : Int) == 0) = false := beq_eq_false_iff_ne.2 (by omega)
  have hYs : Hid (Y = y1 * 4294967296 + y0) := by show _ = _; omega
  have hLs : Hid (L = d1 * 4294967296 + d0) := by show _ = _; omega
  have hY' : Hid (Y = y * 2 ^ s) := hY
  have hu' : Hid (u = hi * 2 ^ s + lo / 2 ^ (64 - s)) := hu
  have hL' : Hid (L = lo * 2 ^ s % 18446744073709551616) := hL
  clear hY hu hL hy1 hy0 hd1 hd0 hH
  go_upto_block 0 with fail
  go_cut [15, 16] from 67 to 85 (fun q r wx => ∃ qn rn : Nat, q = .int .u64 (qn : Int) ∧ r = .int .u64 (rn : Int) ∧ Hid (Dig Y y1 y0 u d1 qn rn ∧ qn = (u * 4294967296 + d1) / Y) ∧ w1 = wx)
  case first =>
    go_wp2_with fail
    go_loop [15, 16] (fun q r => ∃ qn rn : Nat, q = .int .u64 (qn : Int) ∧ r = .int .u64 (rn : Int) ∧ Hid (Dig Y y1 y0 u d1 qn rn) ∧ (rn : Int) < 4294967296) (fun _ r => 4294967296 - (intOf r).toNat)
    case atStart =>
      refine ⟨u / y1, u % y1, by rw [start_q u y1 (by omega)], by rw [start_r u y1 (by omega)], Dig.start hYs.out by0 by1.1 by1.2 ult bd1, ?_⟩
      have := Nat.mod_lt u (show 0 < y1 by omega)
      omega
    case round =>
      obtain ⟨qn, rn, rfl, rfl, hD, hr⟩ := hrel
      have hqle : (qn : Int) ≤ 4294967297 := by have := hD.out.le; omega
      obtain ⟨p, hp⟩ : ∃ p, p = qn * y0 := ⟨_, rfl⟩
      have ep : (qn : Int) * (y0 : Int) = (p : Int) := by rw [hp, Int.natCast_mul]
      have hp' : Hid (p = qn * y0) := hp
      have hpb : Hid (¬ (4294967296 : Int) ≤ qn → (p : Int) < 18446744073709551616) := by
        intro hq
        have : qn * y0 ≤ 4294967295 * 4294967295 := Nat.mul_le_mul (by omega) (by omega)
        omega
      clear hp
      by_cases hc1 : (4294967296 : Int) ≤ qn
      · obtain ⟨hD', hq1, hq2⟩ := hD.out.down (Or.inl (by omega))
        have hDD : Hid (Dig Y y1 y0 u d1 (qn - 1) (rn + y1)) := hD'
        have hq2' : Hid (qn - 1 ≤ 4294967296) := hq2
        have hq1 : (1 : Int) ≤ qn := by omega
        clear hq2 hD' hD
        by_cases hc3 : (4294967296 : Int) ≤ (rn : Int) + (y1 : Int)
        · go_wp2_with fail
          go_meet
          case rel => exact ⟨qn - 1, rn + y1, by go_num, by go_num, ⟨hDD.out, hDD.out.broke hq2'.out (by omega)⟩, rfl⟩
        · go_wp2_with fail
          go_round
          case rel => exact ⟨qn - 1, rn + y1, by go_num, by go_num, hDD, by omega⟩
          case measure => simp [intOf]; omega
      · have hpl : (p : Int) < 18446744073709551616 := hpb.out hc1
        by_cases hc2 : (4294967296 : Int) * rn + d1 < p
        · obtain ⟨hD', hq1, hq2⟩ := hD.out.down (Or.inr (by rw [← hp'.out]; omega))
          have hDD : Hid (Dig Y y1 y0 u d1 (qn - 1) (rn + y1)) := hD'
          have hq2' : Hid (qn - 1 ≤ 4294967296) := hq2
          have hq1 : (1 : Int) ≤ qn := by omega
          clear hq2 hD' hD
          by_cases hc3 : (4294967296 : Int) ≤ (rn : Int) + (y1 : Int)
          · go_wp2_with fail
            go_meet
            case rel => exact ⟨qn - 1, rn + y1, by go_num, by go_num, ⟨hDD.out, hDD.out.broke hq2'.out (by omega)⟩, rfl⟩
          · go_wp2_with fail
            go_round
            case rel => exact ⟨qn - 1, rn + y1, by go_num, by go_num, hDD, by omega⟩
            case measure => simp [intOf]; omega
        · go_wp2_with fail
          go_meet
          case rel => exact ⟨qn, rn, rfl, rfl, ⟨hD.out, hD.out.fits (by rw [← hp'.out]; omega)⟩, rfl⟩
  case rest =>
    obtain ⟨q1, rn, rfl, rfl, hq, rfl⟩ := hcut
    obtain ⟨R, hR⟩ : ∃ R, R = (u * 4294967296 + d1) % Y := ⟨_, rfl⟩
    obtain ⟨hR1, hR2⟩ := hq.out.1.rest hq.out.2
    rw [← hR] at hR1 hR2
    have Rlt : R < Y := hR2
    have eR : IntKind.u64.wrap (IntKind.u64.wrap (IntKind.u64.wrap ((u : Int) * 4294967296) + (d1 : Int)) - IntKind.u64.wrap ((q1 : Int) * (Y : Int))) = (R : Int) := rest_u64 u d1 q1 Y R (by omega) hR1
    have hR1' : Hid (u * 4294967296 + d1 = q1 * Y + R) := hR1
    have q1lt : (q1 : Int) < 4294967296 := by have := hq.out.1.qlt; rw [← hq.out.2] at this; omega
    clear hR hR1 hR2 hq
    go_upto_block 2 with fail
    go_cut [16, 18] from 102 to 120 (fun r q wx => ∃ qn rn : Nat, q = .int .u64 (qn : Int) ∧ r = .int .u64 (rn : Int) ∧ Hid (Dig Y y1 y0 R d0 qn rn ∧ qn = (R * 4294967296 + d0) / Y) ∧ w1 = wx)
    case first =>
      go_wp2_with fail
      go_loop [16, 18] (fun r q => ∃ qn rn : Nat, q = .int .u64 (qn : Int) ∧ r = .int .u64 (rn : Int) ∧ Hid (Dig Y y1 y0 R d0 qn rn) ∧ (rn : Int) < 4294967296) (fun r _ => 4294967296 - (intOf r).toNat)
      case atStart =>
        refine ⟨R / y1, R % y1, by rw [start_q R y1 (by omega)], by rw [start_r R y1 (by omega)], Dig.start hYs.out by0 by1.1 by1.2 Rlt bd0, ?_⟩
        have := Nat.mod_lt R (show 0 < y1 by omega)
        omega
      case round =>
        obtain ⟨qn, rn, rfl, rfl, hD, hr⟩ := hrel
        have hqle : (qn : Int) ≤ 4294967297 := by have := hD.out.le; omega
        obtain ⟨p, hp⟩ : ∃ p, p = qn * y0 := ⟨_, rfl⟩
        have ep : (qn : Int) * (y0 : Int) = (p : Int) := by rw [hp, Int.natCast_mul]
        have hp' : Hid (p = qn * y0) := hp
        have hpb : Hid (¬ (4294967296 : Int) ≤ qn → (p : Int) < 18446744073709551616) := by
          intro hq
          have : qn * y0 ≤ 4294967295 * 4294967295 := Nat.mul_le_mul (by omega) (by omega)
          omega
        clear hp
        by_cases hc1 : (4294967296 : Int) ≤ qn
        · obtain ⟨hD', hq1, hq2⟩ := hD.out.down (Or.inl (by omega))
          have hDD : Hid (Dig Y y1 y0 R d0 (qn - 1) (rn + y1)) := hD'
          have hq2' : Hid (qn - 1 ≤ 4294967296) := hq2
          have hq1 : (1 : Int) ≤ qn := by omega
          clear hq2 hD' hD
          by_cases hc3 : (4294967296 : Int) ≤ (rn : Int) + (y1 : Int)
          · go_wp2_with fail
            go_meet
            case rel => exact ⟨qn - 1, rn + y1, by go_num, by go_num, ⟨hDD.out, hDD.out.broke hq2'.out (by omega)⟩, rfl⟩
          · go_wp2_with fail
            go_round
            case rel => exact ⟨qn - 1, rn + y1, by go_num, by go_num, hDD, by omega⟩
            case measure => simp [intOf]; omega
        · have hpl : (p : Int) < 18446744073709551616 := hpb.out hc1
          by_cases hc2 : (4294967296 : Int) * rn + d0 < p
          · obtain ⟨hD', hq1, hq2⟩ := hD.out.down (Or.inr (by rw [← hp'.out]; omega))
            have hDD : Hid (Dig Y y1 y0 R d0 (qn - 1) (rn + y1)) := hD'
            have hq2' : Hid (qn - 1 ≤ 4294967296) := hq2
            have hq1 : (1 : Int) ≤ qn := by omega
            clear hq2 hD' hD
            by_cases hc3 : (4294967296 : Int) ≤ (rn : Int) + (y1 : Int)
            · go_wp2_with fail
              go_meet
              case rel => exact ⟨qn - 1, rn + y1, by go_num, by go_num, ⟨hDD.out, hDD.out.broke hq2'.out (by omega)⟩, rfl⟩
            · go_wp2_with fail
              go_round
              case rel => exact ⟨qn - 1, rn + y1, by go_num, by go_num, hDD, by omega⟩
              case measure => simp [intOf]; omega
          · go_wp2_with fail
            go_meet
            case rel => exact ⟨qn, rn, rfl, rfl, ⟨hD.out, hD.out.fits (by rw [← hp'.out]; omega)⟩, rfl⟩
    case rest =>
      obtain ⟨q0, rn, rfl, rfl, hq, rfl⟩ := hcut
      obtain ⟨R0, hR⟩ : ∃ R0, R0 = (R * 4294967296 + d0) % Y := ⟨_, rfl⟩
      obtain ⟨hR1, hR2⟩ := hq.out.1.rest hq.out.2
      rw [← hR] at hR1 hR2
      have eR0 : IntKind.u64.wrap (IntKind.u64.wrap (IntKind.u64.wrap ((R : Int) * 4294967296) + (d0 : Int)) - IntKind.u64.wrap ((q0 : Int) * (Y : Int))) = (R0 : Int) := rest_u64 R d0 q0 Y R0 (by omega) hR1
      have hR0' : Hid (R * 4294967296 + d0 = q0 * Y + R0) := hR1
      have hR0l : Hid (R0 < Y) := hR2
      have q0lt : (q0 : Int) < 4294967296 := by have := hq.out.1.qlt; rw [← hq.out.2] at this; omega
      clear hR hR1 hR2 hq
      go_wp2
      go_ret2
      obtain ⟨f1, f2⟩ := div_fin hi lo y s Y u L d1 d0 q1 R q0 R0 hs hY'.out hu'.out hL'.out hLs.out hR1'.out hR0'.out hR0l.out
      exact ⟨ret2_u64 f1 f2, rfl⟩
end Go.Proofs.Ytdmaaigchfgmdaa
