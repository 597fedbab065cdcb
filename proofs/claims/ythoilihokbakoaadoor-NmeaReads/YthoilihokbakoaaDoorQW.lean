/- The reference's Check, walked. -/
import Derived.Test.YthoilihokbakoaaDoorQV
namespace Go.Proofs.YthoilihokbakoaaDoor
open Go Go.RowKit
set_option maxHeartbeats 2000000 in
theorem rcheck_err (s : ByteArray) (w : World) (hs : s.size ≤ 1000000) (he : ckE s.data.toList ≠ 0) : Calls Tryd.prog 6 #[.string s] w fun e w' => e = .returned (.tuple #[.slice none 0 0, .int .i64 (ckE s.data.toList)]) ∧ ∃ k, w' = w.drewN k := by
  have hsi : (s.size : Int) ≤ 1000000 := by omega
  by_cases h3 : s.size < 3
  · have hlt : (s.size : Int) < 3 := by omega
    have HR : Hid (ckE s.data.toList = 21) := by
      have hl : s.data.toList.length = s.size := by simp
      show _ = _
      unfold ckE
      rw [if_pos (by omega)]
    clear he
    go_enter Tryd.func6, Tryd.ntmps6
    go_wp2
    go_ret2
    exact ⟨ret_err HR.out.symm, 0, rfl⟩
  · have h3i : 3 ≤ (s.size : Int) := by omega
    obtain ⟨c0, c1, c2, e0, e1, e2, -, hck⟩ := tail_s s (by omega)
    obtain ⟨b, hb⟩ : ∃ b, b = s.extract 0 (s.size - 3) := ⟨_, rfl⟩
    rw [← hb] at hck
    have hbs : b.size ≤ 1000000 := by rw [hb, ByteArray.size_extract]; omega
    have HB := hb.symm
    by_cases h42 : (c0.toNat : Int) = 42
    · have hb42 : ((c0.toNat : Int) != 42) = false := by rw [h42]; rfl
      rw [if_neg (by omega)] at hck
      clear h42
      have d1 := hx_bd c1
      have d2 := hx_bd c2
      obtain ⟨H1, hH1⟩ : ∃ H1, H1 = hx c1 := ⟨_, rfl⟩
      obtain ⟨H2, hH2⟩ : ∃ H2, H2 = hx c2 := ⟨_, rfl⟩
      have I1 : Hid (∀ u, Calls Tryd.prog 18 #[.int .u8 (c1.toNat : Int)] u fun e w' => e = .returned (.int .i64 H1) ∧ w' = u) := fun u => by rw [hH1]; exact rhex_any c1 u
      have I2 : Hid (∀ u, Calls Tryd.prog 18 #[.int .u8 (c2.toNat : Int)] u fun e w' => e = .returned (.int .i64 H2) ∧ w' = u) := fun u => by rw [hH2]; exact rhex_any c2 u
      rw [← hH1, ← hH2] at hck
      have q1 := hH1.symm
      have q2 := hH2.symm
      rw [← hH1] at d1
      rw [← hH2] at d2
      have IS : Hid (∀ u, Calls Tryd.prog 10 #[.string b] u fun e w' => e = .returned (.int .i64 (xs b.data.toList : Int)) ∧ w' = u) := fun u => rsum_any b u (by omega)
      have hxb := xs_lt b.data.toList
      obtain ⟨X, hX⟩ : ∃ X : Int, X = (xs b.data.toList : Int) := ⟨_, rfl⟩
      rw [← hX] at hck IS
      clear hH1 hH2 hb hxb hX
      have d10 := d1.1
      have d11 := d1.2
      have d20 := d2.1
      have d21 := d2.2
      clear d1 d2
      by_cases k1 : H1 < 0
      · rw [if_pos k1] at hck
        rw [hck]
        clear he hck
        go_enter Tryd.func6, Tryd.ntmps6
        go_wp2_with fail
        refine (I1.out _).mono ?_
        rintro e w' ⟨rfl, hw⟩
        rw [hw]
        go_wp2
        go_ret2
        exact ⟨rfl, 0, rfl⟩
      · rw [if_neg k1] at hck
        by_cases k2 : H2 < 0
        · rw [if_pos k2] at hck
          rw [hck]
          clear he hck
          go_enter Tryd.func6, Tryd.ntmps6
          go_wp2_with fail
          refine (I1.out _).mono ?_
          rintro e w' ⟨rfl, hw⟩
          rw [hw]
          go_wp2_with fail
          refine (I2.out _).mono ?_
          rintro e w'' ⟨rfl, hw''⟩
          rw [hw'']
          go_wp2
          go_ret2
          exact ⟨rfl, 0, rfl⟩
        · rw [if_neg k2] at hck
          have k3 : H1 * 16 + H2 ≠ X := fun e => by rw [if_neg (by rw [e]; simp)] at hck; exact he hck
          rw [if_pos k3] at hck
          rw [hck]
          have o3 : (H1 * 16 + H2 != X) = true := by rw [bne_iff_ne]; exact k3
          clear he hck k3
          go_enter Tryd.func6, Tryd.ntmps6
          go_wp2_with fail
          refine (I1.out _).mono ?_
          rintro e w' ⟨rfl, hw⟩
          rw [hw]
          go_wp2_with fail
          refine (I2.out _).mono ?_
          rintro e w'' ⟨rfl, hw''⟩
          rw [hw'']
          go_wp2_with fail
          clear I1 I2 hw hw''
          obtain ⟨i1, hi1⟩ : ∃ i : Nat, i = s.size - 3 + 1 := ⟨_, rfl⟩
          obtain ⟨i2, hi2⟩ : ∃ i : Nat, i = s.size - 3 + 2 := ⟨_, rfl⟩
          have wi1 : IntKind.i64.wrap ((s.size : Int) - 3 + 1) = (i1 : Int) := by rw [IntKind.wrap_i64]; omega
          have wi2 : IntKind.i64.wrap ((s.size : Int) - 3 + 2) = (i2 : Int) := by rw [IntKind.wrap_i64]; omega
          have l1 : i1 < s.size := by omega
          have l2 : i2 < s.size := by omega
          have g1 : s[i1] = c1 := by subst hi1; exact e1
          have g2 : s[i2] = c2 := by subst hi2; exact e2
          clear hi1 hi2 e1 e2
          have wi3 : IntKind.i64.wrap (H1 * 16) = H1 * 16 := by rw [IntKind.wrap_i64]; omega
          have wi4 : IntKind.i64.wrap (H1 * 16 + H2) = H1 * 16 + H2 := by rw [IntKind.wrap_i64]; omega
          go_quiet (first | (go_at_call 10; exact Calls.quiet_of_same (IS.out _)) | (go_at_call 18; exact Calls.quiet_of_same (rhex_any _ _)))
          go_wp2
          go_ret2
          exact ⟨rfl, nq, rfl⟩
    · have hb42 : ((c0.toNat : Int) != 42) = true := by rw [bne_iff_ne]; exact h42
      rw [if_pos (by omega)] at hck
      rw [hck]
      clear h42 he hck hb HB
      go_enter Tryd.func6, Tryd.ntmps6
      go_wp2
      go_ret2
      exact ⟨rfl, 0, rfl⟩
end Go.Proofs.YthoilihokbakoaaDoor
