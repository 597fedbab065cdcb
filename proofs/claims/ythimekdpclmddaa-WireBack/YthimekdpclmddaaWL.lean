/- What the reference's within, digest, padded and CheckControl return. -/
import Derived.Test.YthimekdpclmddaaWD
namespace Go.Proofs.Ythimekdpclmddaa
open Go.RowKit
set_option maxHeartbeats 400000 in
theorem rwithin_any (n a b : Int) (w : World) :
    Calls Try.prog 38 #[.int .i64 n, .int .i64 a, .int .i64 b] w fun e w' => e = .returned (.bool (wiB n a b)) ∧ w' = w := by
  go_enter Try.func38, Try.ntmps38
  go_wp2
  all_goals
    go_ret
    exact ⟨ret_bool' (by unfold wiB; rw [Bool.eq_iff_iff]; simp at *; omega), rfl⟩
theorem wi_zero : wiB 0 1 65535 = false := by decide
set_option maxHeartbeats 1000000 in
theorem rdigest_any (key : Int) (ao : Option Addr) (n cap : Nat) (w : World) :
    Calls Try.prog 39 #[.int .i64 key, .slice ao n cap] w fun e w' => e = .returned (.bool (dfB key n)) ∧ w' = w := by
  by_cases hz : key = 0
  · subst hz
    by_cases h0 : n = 0
    · subst h0
      go_enter Try.func39, Try.ntmps39
      go_wp2
      go_ret
      exact ⟨rfl, rfl⟩
    · have b0 : ((n : Int) == 0) = false := by rw [beq_eq_false_iff_ne]; omega
      have HD : Hid (dfB 0 n = false) := by show _ = _; unfold dfB; rw [if_neg h0, wi_zero]; split <;> rfl
      clear h0
      go_enter Try.func39, Try.ntmps39
      go_wp2
      go_ret
      exact ⟨ret_bool' HD.out.symm, rfl⟩
  · have hb : (key == 0) = false := by rw [beq_eq_false_iff_ne]; exact hz
    obtain ⟨W, hW⟩ : ∃ W, W = wiB key 1 65535 := ⟨_, rfl⟩
    have HW : Hid (∀ w, Calls Try.prog 38 #[.int .i64 key, .int .i64 1, .int .i64 65535] w fun e w' => e = .returned (.bool W) ∧ w' = w) := fun w => by rw [hW]; exact rwithin_any key 1 65535 w
    have HWW : Hid (W = wiB key 1 65535) := hW
    clear hW
    by_cases h1 : n = 16
    · subst h1
      have HD : Hid (dfB key 16 = W) := by show _ = _; rw [HWW.out]; rfl
      cases W
      all_goals
        go_enter Try.func39, Try.ntmps39
        go_wp2_with (go_at_call 38; refine (HW.out _).mono ?_; rintro e' w' ⟨rfl, hw⟩; rw [hw]; clear hw)
        go_ret
        exact ⟨ret_bool' HD.out.symm, rfl⟩
    by_cases h2 : n = 20
    · subst h2
      have HD : Hid (dfB key 20 = W) := by show _ = _; rw [HWW.out]; rfl
      cases W
      all_goals
        go_enter Try.func39, Try.ntmps39
        go_wp2_with (go_at_call 38; refine (HW.out _).mono ?_; rintro e' w' ⟨rfl, hw⟩; rw [hw]; clear hw)
        go_ret
        exact ⟨ret_bool' HD.out.symm, rfl⟩
    · have b1 : ((n : Int) == 16) = false := by rw [beq_eq_false_iff_ne]; omega
      have b2 : ((n : Int) == 20) = false := by rw [beq_eq_false_iff_ne]; omega
      have HD : Hid (dfB key n = false) := by
        show _ = _
        unfold dfB
        split
        · exact hb
        · rw [if_neg (by omega)]
      clear h1 h2 hz
      cases W
      all_goals
        go_enter Try.func39, Try.ntmps39
        go_wp2_with (go_at_call 38; refine (HW.out _).mono ?_; rintro e' w' ⟨rfl, hw⟩; rw [hw]; clear hw)
        go_ret
        exact ⟨ret_bool' HD.out.symm, rfl⟩
set_option maxHeartbeats 400000 in
theorem rpadded_any (n : Int) (w : World) (h0 : 0 ≤ n) (h1 : n ≤ 140737488355328) :
    Calls Try.prog 63 #[.int .i64 n] w fun e w' => e = .returned (.int .i64 (fil n)) ∧ w' = w := by
  go_enter Try.func63, Try.ntmps63
  go_wp2
  go_ret
  refine ⟨ret_i64 ?_, rfl⟩
  unfold fil
  omega
theorem sz_eq (dn : Nat) (S : Int) (hS : 0 ≤ S) : (512 < 12 + fil dn + S) ↔ (512 < 12 + fil (min (dn : Int) 65536) + S) := by unfold fil; omega
set_option maxHeartbeats 4000000 in
theorem rcheckControl_any (ver : Int) (r e m : Bool) (op seq sta ass off : Int) (da : Option Addr) (dn dc : Nat) (key : Int) (ma : Option Addr) (mn mc : Nat) (w : World) (hdn : (dn : Int) ≤ 140737488355327) (hmn : (mn : Int) ≤ 140737488355327) :
    Calls Try.prog 60 #[ctV ver r e m op seq sta ass off (.slice da dn dc) key (.slice ma mn mc)] w fun e' w' => e' = .returned (.int .i64 (ccE ver op seq sta ass off key dn mn)) ∧ Below w.heap.size w w' := by
  obtain ⟨D, hD⟩ : ∃ D, D = dfB key mn := ⟨_, rfl⟩
  have HD : Hid (D = dfB key mn) := hD
  have HG : Hid (∀ (w : World), Calls Try.prog 39 #[.int .i64 key, .slice ma mn mc] w fun e' w' => e' = .returned (.bool D) ∧ w' = w) := by
    intro w; rw [hD]; exact rdigest_any key ma mn mc w
  clear hD
  unfold ctV
  cases hver : wiB ver 1 4
  · go_enter Try.func60, Try.ntmps60
    go_wp2_with (first | (go_at_call 38; refine (rwithin_any _ _ _ _).mono ?_; rintro e' w' ⟨rfl, hw⟩; rw [hw]; clear hw) | (go_at_call 39; refine (HG.out _).mono ?_; rintro e' w' ⟨rfl, hw⟩; rw [hw]; clear hw) | (go_at_call 63; refine (rpadded_any _ _ (by omega) (by omega)).mono ?_; rintro e' w' ⟨rfl, hw⟩; rw [hw]; clear hw))
    go_ret
    exact ⟨ret_i64 (by unfold ccE cfB; rw [hver]; simp), (by repeat' (first | with_reducible exact Below.refl _ _ | with_reducible refine Below.setCell ?_ (by first | (simp; done) | (simp; omega) | omega) _ | with_reducible refine below_drewN ?_ _ | with_reducible refine Below.drew ?_ | with_reducible refine Below.alloc ?_ (by first | (simp; done) | (simp; omega) | omega) _))⟩
  cases hop : wiB op 0 31
  · go_enter Try.func60, Try.ntmps60
    go_wp2_with (first | (go_at_call 38; refine (rwithin_any _ _ _ _).mono ?_; rintro e' w' ⟨rfl, hw⟩; rw [hw]; clear hw) | (go_at_call 39; refine (HG.out _).mono ?_; rintro e' w' ⟨rfl, hw⟩; rw [hw]; clear hw) | (go_at_call 63; refine (rpadded_any _ _ (by omega) (by omega)).mono ?_; rintro e' w' ⟨rfl, hw⟩; rw [hw]; clear hw))
    go_ret
    exact ⟨ret_i64 (by unfold ccE cfB; rw [hop]; simp), (by repeat' (first | with_reducible exact Below.refl _ _ | with_reducible refine Below.setCell ?_ (by first | (simp; done) | (simp; omega) | omega) _ | with_reducible refine below_drewN ?_ _ | with_reducible refine Below.drew ?_ | with_reducible refine Below.alloc ?_ (by first | (simp; done) | (simp; omega) | omega) _))⟩
  cases hseq : wiB seq 0 65535
  · go_enter Try.func60, Try.ntmps60
    go_wp2_with (first | (go_at_call 38; refine (rwithin_any _ _ _ _).mono ?_; rintro e' w' ⟨rfl, hw⟩; rw [hw]; clear hw) | (go_at_call 39; refine (HG.out _).mono ?_; rintro e' w' ⟨rfl, hw⟩; rw [hw]; clear hw) | (go_at_call 63; refine (rpadded_any _ _ (by omega) (by omega)).mono ?_; rintro e' w' ⟨rfl, hw⟩; rw [hw]; clear hw))
    go_ret
    exact ⟨ret_i64 (by unfold ccE cfB; rw [hseq]; simp), (by repeat' (first | with_reducible exact Below.refl _ _ | with_reducible refine Below.setCell ?_ (by first | (simp; done) | (simp; omega) | omega) _ | with_reducible refine below_drewN ?_ _ | with_reducible refine Below.drew ?_ | with_reducible refine Below.alloc ?_ (by first | (simp; done) | (simp; omega) | omega) _))⟩
  cases hsta : wiB sta 0 65535
  · go_enter Try.func60, Try.ntmps60
    go_wp2_with (first | (go_at_call 38; refine (rwithin_any _ _ _ _).mono ?_; rintro e' w' ⟨rfl, hw⟩; rw [hw]; clear hw) | (go_at_call 39; refine (HG.out _).mono ?_; rintro e' w' ⟨rfl, hw⟩; rw [hw]; clear hw) | (go_at_call 63; refine (rpadded_any _ _ (by omega) (by omega)).mono ?_; rintro e' w' ⟨rfl, hw⟩; rw [hw]; clear hw))
    go_ret
    exact ⟨ret_i64 (by unfold ccE cfB; rw [hsta]; simp), (by repeat' (first | with_reducible exact Below.refl _ _ | with_reducible refine Below.setCell ?_ (by first | (simp; done) | (simp; omega) | omega) _ | with_reducible refine below_drewN ?_ _ | with_reducible refine Below.drew ?_ | with_reducible refine Below.alloc ?_ (by first | (simp; done) | (simp; omega) | omega) _))⟩
  cases hass : wiB ass 0 65535
  · go_enter Try.func60, Try.ntmps60
    go_wp2_with (first | (go_at_call 38; refine (rwithin_any _ _ _ _).mono ?_; rintro e' w' ⟨rfl, hw⟩; rw [hw]; clear hw) | (go_at_call 39; refine (HG.out _).mono ?_; rintro e' w' ⟨rfl, hw⟩; rw [hw]; clear hw) | (go_at_call 63; refine (rpadded_any _ _ (by omega) (by omega)).mono ?_; rintro e' w' ⟨rfl, hw⟩; rw [hw]; clear hw))
    go_ret
    exact ⟨ret_i64 (by unfold ccE cfB; rw [hass]; simp), (by repeat' (first | with_reducible exact Below.refl _ _ | with_reducible refine Below.setCell ?_ (by first | (simp; done) | (simp; omega) | omega) _ | with_reducible refine below_drewN ?_ _ | with_reducible refine Below.drew ?_ | with_reducible refine Below.alloc ?_ (by first | (simp; done) | (simp; omega) | omega) _))⟩
  cases hoff : wiB off 0 65535
  · go_enter Try.func60, Try.ntmps60
    go_wp2_with (first | (go_at_call 38; refine (rwithin_any _ _ _ _).mono ?_; rintro e' w' ⟨rfl, hw⟩; rw [hw]; clear hw) | (go_at_call 39; refine (HG.out _).mono ?_; rintro e' w' ⟨rfl, hw⟩; rw [hw]; clear hw) | (go_at_call 63; refine (rpadded_any _ _ (by omega) (by omega)).mono ?_; rintro e' w' ⟨rfl, hw⟩; rw [hw]; clear hw))
    go_ret
    exact ⟨ret_i64 (by unfold ccE cfB; rw [hoff]; simp), (by repeat' (first | with_reducible exact Below.refl _ _ | with_reducible refine Below.setCell ?_ (by first | (simp; done) | (simp; omega) | omega) _ | with_reducible refine below_drewN ?_ _ | with_reducible refine Below.drew ?_ | with_reducible refine Below.alloc ?_ (by first | (simp; done) | (simp; omega) | omega) _))⟩
  have HCF : Hid (cfB ver op seq sta ass off = true) := by show _ = _; unfold cfB; rw [hver, hop, hseq, hsta, hass, hoff]; rfl
  cases D
  · go_enter Try.func60, Try.ntmps60
    go_wp2_with (first | (go_at_call 38; refine (rwithin_any _ _ _ _).mono ?_; rintro e' w' ⟨rfl, hw⟩; rw [hw]; clear hw) | (go_at_call 39; refine (HG.out _).mono ?_; rintro e' w' ⟨rfl, hw⟩; rw [hw]; clear hw) | (go_at_call 63; refine (rpadded_any _ _ (by omega) (by omega)).mono ?_; rintro e' w' ⟨rfl, hw⟩; rw [hw]; clear hw))
    go_ret
    exact ⟨ret_i64 (by unfold ccE; rw [← HD.out]; simp), (by repeat' (first | with_reducible exact Below.refl _ _ | with_reducible refine Below.setCell ?_ (by first | (simp; done) | (simp; omega) | omega) _ | with_reducible refine below_drewN ?_ _ | with_reducible refine Below.drew ?_ | with_reducible refine Below.alloc ?_ (by first | (simp; done) | (simp; omega) | omega) _))⟩
  · have hm20 : (mn : Int) ≤ 20 := by
      have := HD.out
      unfold dfB at this
      split at this
      · omega
      · split at this
        · omega
        · cases this
    obtain ⟨M, hM⟩ : ∃ M : Int, M = min (dn : Int) 65536 := ⟨_, rfl⟩
    have m0 : 0 ≤ M := by omega
    have m1 : M ≤ 65536 := by omega
    obtain ⟨F, hF⟩ : ∃ F, F = fil M := ⟨_, rfl⟩
    have f0 : 0 ≤ F := by rw [hF]; unfold fil; omega
    have f1 : F ≤ 65540 := by rw [hF]; unfold fil; omega
    have HP : Hid (∀ (w : World), Calls Try.prog 63 #[.int .i64 M] w fun e' w' => e' = .returned (.int .i64 F) ∧ w' = w) := fun w => by
      rw [hF]; exact rpadded_any M w m0 (by omega)
    have HF : Hid (F = fil (min (dn : Int) 65536)) := by show _ = _; rw [hF, hM]
    have hM' : min (dn : Int) 65536 = M := hM.symm
    clear hM hF
    by_cases hk : key = 0
    · subst hk
      have dz : dsz 0 mn = 0 := rfl
      by_cases hs : 512 < 12 + F
      · go_enter Try.func60, Try.ntmps60
        go_wp2_with (first | (go_at_call 63; refine (HP.out _).mono ?_; rintro e' w' ⟨rfl, hw⟩; rw [hw]; clear hw) | (first | (go_at_call 38; refine (rwithin_any _ _ _ _).mono ?_; rintro e' w' ⟨rfl, hw⟩; rw [hw]; clear hw) | (go_at_call 39; refine (HG.out _).mono ?_; rintro e' w' ⟨rfl, hw⟩; rw [hw]; clear hw) | (go_at_call 63; refine (rpadded_any _ _ (by omega) (by omega)).mono ?_; rintro e' w' ⟨rfl, hw⟩; rw [hw]; clear hw)))
        go_ret
        refine ⟨ret_i64 ?_, (by repeat' (first | with_reducible exact Below.refl _ _ | with_reducible refine Below.setCell ?_ (by first | (simp; done) | (simp; omega) | omega) _ | with_reducible refine below_drewN ?_ _ | with_reducible refine Below.drew ?_ | with_reducible refine Below.alloc ?_ (by first | (simp; done) | (simp; omega) | omega) _))⟩
        unfold ccE
        rw [HCF.out, ← HD.out, dz, if_pos (by decide : (true && true) = true), if_pos]
        rw [sz_eq dn _ (by omega), ← HF.out]
        omega
      · go_enter Try.func60, Try.ntmps60
        go_wp2_with (first | (go_at_call 63; refine (HP.out _).mono ?_; rintro e' w' ⟨rfl, hw⟩; rw [hw]; clear hw) | (first | (go_at_call 38; refine (rwithin_any _ _ _ _).mono ?_; rintro e' w' ⟨rfl, hw⟩; rw [hw]; clear hw) | (go_at_call 39; refine (HG.out _).mono ?_; rintro e' w' ⟨rfl, hw⟩; rw [hw]; clear hw) | (go_at_call 63; refine (rpadded_any _ _ (by omega) (by omega)).mono ?_; rintro e' w' ⟨rfl, hw⟩; rw [hw]; clear hw)))
        go_ret
        refine ⟨ret_i64 ?_, (by repeat' (first | with_reducible exact Below.refl _ _ | with_reducible refine Below.setCell ?_ (by first | (simp; done) | (simp; omega) | omega) _ | with_reducible refine below_drewN ?_ _ | with_reducible refine Below.drew ?_ | with_reducible refine Below.alloc ?_ (by first | (simp; done) | (simp; omega) | omega) _))⟩
        unfold ccE
        rw [HCF.out, ← HD.out, dz, if_pos (by decide : (true && true) = true), if_neg]
        rw [sz_eq dn _ (by omega), ← HF.out]
        omega
    · have dz : dsz key mn = 4 + mn := by unfold dsz; rw [if_neg hk]
      have hkb : (key != 0) = true := by rw [bne_iff_ne]; exact hk
      have Hdz : Hid (dsz key mn = 4 + mn) := dz
      clear dz hk
      by_cases hs : 512 < 12 + F + 4 + (mn : Int)
      · go_enter Try.func60, Try.ntmps60
        go_wp2_with (first | (go_at_call 63; refine (HP.out _).mono ?_; rintro e' w' ⟨rfl, hw⟩; rw [hw]; clear hw) | (first | (go_at_call 38; refine (rwithin_any _ _ _ _).mono ?_; rintro e' w' ⟨rfl, hw⟩; rw [hw]; clear hw) | (go_at_call 39; refine (HG.out _).mono ?_; rintro e' w' ⟨rfl, hw⟩; rw [hw]; clear hw) | (go_at_call 63; refine (rpadded_any _ _ (by omega) (by omega)).mono ?_; rintro e' w' ⟨rfl, hw⟩; rw [hw]; clear hw)))
        go_ret
        refine ⟨ret_i64 ?_, (by repeat' (first | with_reducible exact Below.refl _ _ | with_reducible refine Below.setCell ?_ (by first | (simp; done) | (simp; omega) | omega) _ | with_reducible refine below_drewN ?_ _ | with_reducible refine Below.drew ?_ | with_reducible refine Below.alloc ?_ (by first | (simp; done) | (simp; omega) | omega) _))⟩
        unfold ccE
        rw [HCF.out, ← HD.out, Hdz.out, if_pos (by decide : (true && true) = true), if_pos]
        rw [sz_eq dn _ (by omega), ← HF.out]
        omega
      · go_enter Try.func60, Try.ntmps60
        go_wp2_with (first | (go_at_call 63; refine (HP.out _).mono ?_; rintro e' w' ⟨rfl, hw⟩; rw [hw]; clear hw) | (first | (go_at_call 38; refine (rwithin_any _ _ _ _).mono ?_; rintro e' w' ⟨rfl, hw⟩; rw [hw]; clear hw) | (go_at_call 39; refine (HG.out _).mono ?_; rintro e' w' ⟨rfl, hw⟩; rw [hw]; clear hw) | (go_at_call 63; refine (rpadded_any _ _ (by omega) (by omega)).mono ?_; rintro e' w' ⟨rfl, hw⟩; rw [hw]; clear hw)))
        go_ret
        refine ⟨ret_i64 ?_, (by repeat' (first | with_reducible exact Below.refl _ _ | with_reducible refine Below.setCell ?_ (by first | (simp; done) | (simp; omega) | omega) _ | with_reducible refine below_drewN ?_ _ | with_reducible refine Below.drew ?_ | with_reducible refine Below.alloc ?_ (by first | (simp; done) | (simp; omega) | omega) _))⟩
        unfold ccE
        rw [HCF.out, ← HD.out, Hdz.out, if_pos (by decide : (true && true) = true), if_neg]
        rw [sz_eq dn _ (by omega), ← HF.out]
        omega
end Go.Proofs.Ythimekdpclmddaa
