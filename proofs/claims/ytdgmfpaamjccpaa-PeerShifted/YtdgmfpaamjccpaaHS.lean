/- PeerShifted. -/
import Derived.Test.YtdgmfpaamjccpaaHA
namespace Go.Proofs.Ytdgmfpaamjccpaa
open Go Go.RowKit
/-- a stamp a little behind another one -/
def Off (a y : Int) : Prop := ∃ d : Int, 0 ≤ d ∧ d < 1125899906842624 ∧ y = (a + d) % 18446744073709551616
theorem off_of (a x y : Int) (h : y = IntKind.u64.wrap (a + (IntKind.u64.wrap (x - a)).tmod 1125899906842624)) : Off a y := by
  have h1 : 0 ≤ IntKind.u64.wrap (x - a) := by rw [IntKind.wrap_u64]; omega
  rw [Int.tmod_eq_emod_of_nonneg h1, IntKind.wrap_u64] at h
  exact ⟨_, by omega, by omega, h⟩
theorem shifted (a x1 x2 x3 n c : Int) (h1 : Off a x1) (h2 : Off a x2) (h3 : Off a x3) (hn : -2147483648 ≤ n ∧ n ≤ 2147483647) (hc : c = n % 18446744073709551616) :
    exO a (IntKind.u64.wrap (x1 + c)) (IntKind.u64.wrap (x2 + c)) x3 - exO a x1 x2 x3 = n ∧ exD a (IntKind.u64.wrap (x1 + c)) (IntKind.u64.wrap (x2 + c)) x3 = exD a x1 x2 x3 ∧ 4096 ≤ exD a x1 x2 x3 ∧ -1125899906842624 ≤ exO a x1 x2 x3 ∧ exO a x1 x2 x3 ≤ 1125899906842624 := by
  obtain ⟨d1, a1, b1, e1⟩ := h1
  obtain ⟨d2, a2, b2, e2⟩ := h2
  obtain ⟨d3, a3, b3, e3⟩ := h3
  have s1 : sn x1 a = d1 := by unfold sn Fx.cl; omega
  have s2 : sn x2 x3 = d2 - d3 := by unfold sn Fx.cl; omega
  have s3 : sn (IntKind.u64.wrap (x1 + c)) a = d1 + n := by rw [IntKind.wrap_u64]; unfold sn Fx.cl; omega
  have s4 : sn (IntKind.u64.wrap (x2 + c)) x3 = d2 - d3 + n := by rw [IntKind.wrap_u64]; unfold sn Fx.cl; omega
  unfold exO exD
  rw [s1, s2, s3, s4]
  unfold Fx.cl
  omega
set_option maxRecDepth 20000 in
set_option maxHeartbeats 1000000 in
theorem PeerShifted_walk (a0 a1 a2 a3 n : Int) (w : World) (hn : -2147483648 ≤ n ∧ n ≤ 2147483647) :
    Calls Try.prog 3 #[.agg #[.int .u64 a0, .int .u64 a1, .int .u64 a2, .int .u64 a3], .int .i32 n] w fun e w' => e = .returned (.bool true) ∧ Below w.heap.size w w' := by
  have HN : Hid (-2147483648 ≤ n ∧ n ≤ 2147483647) := hn
  clear hn
  go_enter Try.func3, Try.ntmps3
  refine post_hid fun Q hQ => ?_
  refine seq_hid fun R hR => ?_
  go_wp2
  refine world_hid fun W hW => ?_
  have HB : Hid (Below w.heap.size w W) := by show Below _ _ _; rw [hW.out]; exact (Below.refl _ _).alloc (Nat.le_refl _) _
  have HK0 : Hid (Bk w.heap.size W #[.int .u64 a0, .int .u64 a1, .int .u64 a2, .int .u64 a3] 24) := by show Bk _ _ _ _; rw [hW.out]; exact Bk.new _ _ _
  clear hW
  rw [hR.out]
  clear hR
  refine seq_hid fun R hR => ?_
  go_wp2
  go_loopw [5] (fun i wr => ∃ (k y1 y2 y3 : Int), i = .int .i64 k ∧ 1 ≤ k ∧ k ≤ 4 ∧ Hid (Bk w.heap.size wr #[.int .u64 a0, .int .u64 y1, .int .u64 y2, .int .u64 y3] 24 ∧ Below w.heap.size w wr ∧ (1 < k → Off a0 y1) ∧ (2 < k → Off a0 y2) ∧ (3 < k → Off a0 y3))) (fun i _ => 4 - (intOf i).toNat)
  case atStart => exact ⟨1, a1, a2, a3, rfl, by omega, by omega, ⟨HK0.out, HB.out, fun h => absurd h (by omega), fun h => absurd h (by omega), fun h => absurd h (by omega)⟩⟩
  case round =>
    clear HK0 HB
    obtain ⟨k, y1, y2, y3, rfl, hk0, hk, HK⟩ := hrel
    have c0 := HK.out.1.cell 0
    have c1 := HK.out.1.cell 1
    have c2 := HK.out.1.cell 2
    have c3 := HK.out.1.cell 3
    have f0 := HK.out.1.frozen
    simp at c0 c1 c2 c3
    rcases (show k = 1 ∨ k = 2 ∨ k = 3 ∨ k = 4 by omega) with rfl | rfl | rfl | rfl
    · go_wp2
      go_region
      go_wp2
      go_roundw
      case rel => exact ⟨2, _, y2, y3, rfl, by omega, by omega, ⟨HK.out.1.set (j := 1) _, (by repeat' (first | with_reducible exact Below.refl _ _ | with_reducible exact HK.out.2.1 | with_reducible refine Below.setCell ?_ (by first | (simp; done) | (simp; omega) | omega) _ | with_reducible refine below_drewN ?_ _ | with_reducible refine Below.drew ?_ | with_reducible refine Below.alloc ?_ (by first | (simp; done) | (simp; omega) | omega) _)), fun _ => off_of _ _ _ rfl, fun h => absurd h (by omega), fun h => absurd h (by omega)⟩⟩
      case measure => simp [intOf]
    · go_wp2
      go_region
      go_wp2
      go_roundw
      case rel => exact ⟨3, y1, _, y3, rfl, by omega, by omega, ⟨HK.out.1.set (j := 2) _, (by repeat' (first | with_reducible exact Below.refl _ _ | with_reducible exact HK.out.2.1 | with_reducible refine Below.setCell ?_ (by first | (simp; done) | (simp; omega) | omega) _ | with_reducible refine below_drewN ?_ _ | with_reducible refine Below.drew ?_ | with_reducible refine Below.alloc ?_ (by first | (simp; done) | (simp; omega) | omega) _)), fun _ => HK.out.2.2.1 (by omega), fun _ => off_of _ _ _ rfl, fun h => absurd h (by omega)⟩⟩
      case measure => simp [intOf]
    · go_wp2
      go_region
      go_wp2
      go_roundw
      case rel => exact ⟨4, y1, y2, _, rfl, by omega, by omega, ⟨HK.out.1.set (j := 3) _, (by repeat' (first | with_reducible exact Below.refl _ _ | with_reducible exact HK.out.2.1 | with_reducible refine Below.setCell ?_ (by first | (simp; done) | (simp; omega) | omega) _ | with_reducible refine below_drewN ?_ _ | with_reducible refine Below.drew ?_ | with_reducible refine Below.alloc ?_ (by first | (simp; done) | (simp; omega) | omega) _)), fun _ => HK.out.2.2.1 (by omega), fun _ => HK.out.2.2.2.1 (by omega), fun _ => off_of _ _ _ rfl⟩⟩
      case measure => simp [intOf]
    · obtain ⟨c, hc⟩ : ∃ c, c = n % 18446744073709551616 := ⟨_, rfl⟩
      have S := shifted a0 y1 y2 y3 n c (HK.out.2.2.1 (by omega)) (HK.out.2.2.2.1 (by omega)) (HK.out.2.2.2.2 (by omega)) HN.out hc
      obtain ⟨A, hA⟩ : ∃ A, exO a0 y1 y2 y3 = A := ⟨_, rfl⟩
      obtain ⟨D, hD⟩ : ∃ D, exD a0 y1 y2 y3 = D := ⟨_, rfl⟩
      obtain ⟨z1, h1⟩ : ∃ z1, IntKind.u64.wrap (y1 + c) = z1 := ⟨_, rfl⟩
      obtain ⟨z2, h2⟩ : ∃ z2, IntKind.u64.wrap (y2 + c) = z2 := ⟨_, rfl⟩
      rw [hA, hD, h1, h2] at S
      have HX : Hid (∀ u, Calls Try.prog 9 #[.int .u64 a0, .int .u64 y1, .int .u64 y2, .int .u64 y3] u fun e w' => e = .returned (.tuple #[.int .i64 A, .int .i64 D]) ∧ w' = u) := fun u => by rw [← hA, ← hD]; exact exchange_any _ _ _ _ u
      have HY : Hid (∀ u, Calls Try.prog 9 #[.int .u64 a0, .int .u64 z1, .int .u64 z2, .int .u64 y3] u fun e w' => e = .returned (.tuple #[.int .i64 (A + n), .int .i64 D]) ∧ w' = u) := fun u => by
        have h := exchange_any a0 z1 z2 y3 u
        rw [show exO a0 z1 z2 y3 = A + n by omega, S.2.1] at h
        exact h
      have ew : wrap64 n = n := by simp only [wrap64]; have := HN.out; omega
      have ec : IntKind.u64.wrap n = c := by rw [IntKind.wrap_u64, hc]
      have e3 : IntKind.i64.wrap (A + n - A) = n := by rw [IntKind.wrap_i64]; have := HN.out; omega
      have e4 : decide (D ≥ 4096) = true := decide_eq_true S.2.2.1
      have e5 : decide (4096 ≤ D) = true := decide_eq_true S.2.2.1
      have HBB : Hid (Below w.heap.size w wr) := HK.out.2.1
      clear S hA hD HK hc
      go_wp2_with fail
      rw [hR.out]
      clear hR
      refine seq_hid fun R hR => ?_
      go_wp2_with (go_at_call 9; refine (HX.out _).mono ?_; rintro e w' ⟨rfl, rfl⟩)
      rw [hR.out]
      clear hR HX
      go_wp2_with (go_at_call 9; refine (HY.out _).mono ?_; rintro e w' ⟨rfl, rfl⟩)
      rw [hQ.out]
      go_ret
      exact ⟨rfl, HBB.out⟩
theorem PeerShifted_row (a0 a1 a2 a3 n : Int) (w : World) (h0 : -2147483648 ≤ n) (h1 : n ≤ 2147483647) :
    Calls Try.prog 3 #[.agg #[.int .u64 a0, .int .u64 a1, .int .u64 a2, .int .u64 a3], .int .i32 n] w fun e w' => e = .returned (.bool true) ∧ Below w.heap.size w w' := PeerShifted_walk a0 a1 a2 a3 n w ⟨h0, h1⟩
end Go.Proofs.Ytdgmfpaamjccpaa
