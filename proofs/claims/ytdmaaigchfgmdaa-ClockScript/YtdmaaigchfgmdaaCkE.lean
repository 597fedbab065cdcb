/- clock: the gain, At; days; leaps. -/
import Derived.Test.YtdmaaigchfgmdaaCkD
namespace Go.Proofs.Ytdmaaigchfgmdaa
open Go Go.RowKit Go.Sort
set_option linter.unusedVariables false
theorem tdiv_fl (S : Int) : S / 86400 = if S.tmod 86400 < 0 then S.tdiv 86400 - 1 else S.tdiv 86400 := by
  have h1 := Int.mul_tdiv_add_tmod S 86400
  have h2 := Int.tmod_lt_of_pos S (show (0 : Int) < 86400 by decide)
  have h3 := Int.lt_tmod_of_pos S (show (0 : Int) < 86400 by decide)
  split <;> omega
theorem gain_any (p0 : Nat) (s : Cs) (d : Int) (w : World) (h : Po w p0 s) (ok : OkC s) (hd : -9223372036854775808 ≤ d ∧ d ≤ 9223372036854775807) : Calls Try.prog 88 #[.pointer (some ⟨p0, 3, none⟩), .int .i64 d] w fun e w' => e = .returned (.int .i64 (sv ((s.r + s.f) * d / 281474976710656))) ∧ ∃ n, w' = w.drewN n := by
  obtain ⟨P, hP⟩ : ∃ T, s.r + s.f = T := ⟨_, rfl⟩
  have r0 := ok.r0; have r1 := ok.r1; have f0 := ok.f0; have f1 := ok.f1
  have K1 : Hid (Calls Try.prog 89 #[.pointer (some ⟨p0, 3, none⟩)] w fun e w' => e = .returned (.int .i64 P) ∧ ∃ n, w' = w.drewN n) := by
    rw [← hP]; exact pace_any p0 s.r s.f w (h.cell 3) (h.cell 4) ⟨r0, r1⟩ ⟨f0, f1⟩
  have K2 : Hid (∀ u, Calls Try.prog 90 #[.int .i64 P, .int .i64 d] u fun e w' => e = .returned (.int .i64 (sv (P * d / 281474976710656))) ∧ ∃ n, w' = u.drewN n) := fun u => drift_any P d u (by omega) (by omega) hd.1 hd.2
  rw [hP]
  obtain ⟨X, hX⟩ : ∃ X, sv (P * d / 281474976710656) = X := ⟨_, rfl⟩
  rw [hX] at K2 ⊢
  clear h ok hd hP hX r0 r1 f0 f1
  go_enter Try.func88, Try.ntmps88
  refine post_hid fun Q hQ => ?_
  go_wp2_with (first
    | (go_at_call 89; refine K1.out.mono ?_; rintro e w1 ⟨rfl, n, hw⟩; have HW : Hid (w1 = w.drewN n) := hw; clear hw)
    | (go_at_call 90; refine (K2.out _).mono ?_; rintro e w2 ⟨rfl, m, hw⟩; have HW2 : Hid (w2 = w1.drewN m) := hw; clear hw))
  rw [hQ.out]
  go_ret
  exact ⟨rfl, n + m, by rw [HW2.out, HW.out]; simp [World.drewN, Nat.add_assoc]⟩
set_option maxHeartbeats 1000000 in
theorem at_any (p : Nat) (s : Cs) (d : Int) (w : World) (h : Po w p s) (ok : OkC s) (hd : -9223372036854775808 ≤ d ∧ d ≤ 9223372036854775807) : Calls Try.prog 42 #[.pointer (some ⟨p, 0, none⟩), .int .i64 d] w fun e w' => e = .returned (.int .u64 (atT s d)) ∧ Below w.heap.size w w' := by
  obtain ⟨A, hA⟩ : ∃ t, atI (s.x + s.e) = t := ⟨_, rfl⟩
  obtain ⟨X, hX⟩ : ∃ X, sv ((s.r + s.f) * d / 281474976710656) = X := ⟨_, rfl⟩
  obtain ⟨Y, hY⟩ : ∃ X, sv (d + sv ((s.r + s.f) * d / 281474976710656)) = X := ⟨_, rfl⟩
  obtain ⟨Z, hZ⟩ : ∃ X, atT s d = X := ⟨_, rfl⟩
  have bX := sv_bd ((s.r + s.f) * d / 281474976710656)
  rw [hX] at bX
  have bA := atI_bd (s.x + s.e)
  rw [hA] at bA
  have K1 : Hid (Calls Try.prog 12 #[.pointer (some ⟨p, 0, none⟩)] w fun r w' => r = .returned (.int .u64 A) ∧ Below w.heap.size w w') := by
    rw [← hA]; exact now_any p s w h ok
  have K2 : Hid (∀ u, Po u p s → Calls Try.prog 88 #[.pointer (some ⟨p, 3, none⟩), .int .i64 d] u fun e w' => e = .returned (.int .i64 X) ∧ ∃ n, w' = u.drewN n) := fun u hu => by
    rw [← hX]; exact gain_any p s d u hu ok hd
  have K3 : Hid (∀ u, Calls Try.prog 27 #[.int .i64 d, .int .i64 X] u fun e w' => e = .returned (.int .i64 Y) ∧ w' = u) := fun u => by
    rw [← hY, hX]; exact add_any _ _ u hd.1 hd.2 (by omega) (by omega)
  have K4 : Hid (∀ u, Calls Try.prog 50 #[.int .u64 A, .int .i64 Y] u fun e w' => e = .returned (.int .u64 Z) ∧ w' = u) := fun u => by
    have h := tplus_any A Y u bA.1 bA.2
    have e : (A + Y) % 18446744073709551616 = Z := by rw [← hZ, ← hA, ← hY]; unfold atT atI; omega
    rw [e] at h; exact h
  have HP : Hid (Po w p s) := h
  rw [hZ]
  clear h ok hd hA hX hY hZ bX bA
  go_enter Try.func42, Try.ntmps42
  refine post_hid fun Q hQ => ?_
  go_wp2_with (first
    | (go_at_call 12; refine K1.out.mono ?_; rintro e w1 ⟨rfl, hb⟩; have HB : Hid (Below w.heap.size w w1 ∧ Po w1 p s) := ⟨hb, Bk.kept HP.out (hb.block _ (Bk.lt HP.out))⟩; clear hb)
    | (go_at_call 47; refine (drive_any p _).mono ?_; rintro e w2 ⟨rfl, hw⟩; rw [hw]; clear hw)
    | (go_at_call 88; refine (K2.out _ HB.out.2).mono ?_; rintro e w3 ⟨rfl, n, hw⟩; have HW : Hid (w3 = w1.drewN n) := hw; clear hw)
    | (go_at_call 27; refine (K3.out _).mono ?_; rintro e w4 ⟨rfl, rfl⟩)
    | (go_at_call 50; refine (K4.out _).mono ?_; rintro e w5 ⟨rfl, rfl⟩))
  rw [hQ.out]
  go_ret
  exact ⟨rfl, by rw [HW.out]; exact below_thru HB.out.1 ⟨rfl, rfl, rfl, Nat.le_refl _, fun _ _ => rfl⟩⟩
set_option maxHeartbeats 1000000 in
theorem dayOf_any (p : Nat) (s : Cs) (w : World) (h : Po w p s) (ok : OkC s) : Calls Try.prog 46 #[.iface 27 (.pointer (some ⟨p, 0, none⟩))] w fun e w' => e = .returned (.int .i64 (dayI (s.x + s.e))) ∧ Below w.heap.size w w' := by
  obtain ⟨A, hA⟩ : ∃ t, atI (s.x + s.e) = t := ⟨_, rfl⟩
  obtain ⟨E, hE⟩ : ∃ t, eraI (s.x + s.e) = t := ⟨_, rfl⟩
  have K : Hid (Calls Try.prog 14 #[.pointer (some ⟨p, 0, none⟩)] w fun r w' => r = .returned (.agg #[.int .i64 E, .int .u64 A]) ∧ Below w.heap.size w w') := by
    rw [← hA, ← hE]; exact date_any p s w h ok
  have bA := atI_bd (s.x + s.e)
  have bE := eraI_bd ok.oxe
  rw [hA] at bA
  rw [hE] at bE
  have hx : (s.x + s.e) / 4294967296 = E * 4294967296 + A / 4294967296 := by rw [← hA, ← hE]; unfold eraI atI; omega
  obtain ⟨S, hS⟩ : ∃ S, E * 4294967296 + A / 4294967296 = S := ⟨_, rfl⟩
  have HD : Hid (dayI (s.x + s.e) = if S.tmod 86400 < 0 then S.tdiv 86400 - 1 else S.tdiv 86400) := by
    show _ = _
    unfold dayI
    rw [hx, hS]
    exact tdiv_fl S
  have m1 : wrap64 (E * 4294967296) = E * 4294967296 := w64i _ (by omega) (by omega)
  have m2 : wrap64 (A / 4294967296) = A / 4294967296 := w64i _ (by omega) (by omega)
  have m3 : wrap64 (E * 4294967296 + A / 4294967296) = S := by rw [w64i _ (by omega) (by omega)]; exact hS
  obtain ⟨T, hT⟩ : ∃ T, S.tdiv 86400 = T := ⟨_, rfl⟩
  obtain ⟨M, hM⟩ : ∃ T, S.tmod 86400 = T := ⟨_, rfl⟩
  have h1 := Int.mul_tdiv_add_tmod S 86400
  have h2 := Int.tmod_lt_of_pos S (show (0 : Int) < 86400 by decide)
  have h3 := Int.lt_tmod_of_pos S (show (0 : Int) < 86400 by decide)
  rw [hM] at h1 h2 h3
  rw [hT] at h1
  have m4 : wrap64 S = S := w64i _ (by omega) (by omega)
  have m5 : wrap64 T = T := w64i _ (by omega) (by omega)
  have m6 : wrap64 (T - 1) = T - 1 := w64i _ (by omega) (by omega)
  clear h1 h2 h3
  rw [HD.out, hM, hT]
  clear h ok hA hE HD hx bA bE
  by_cases h0 : M < 0
  all_goals
    first | rw [if_pos h0] | rw [if_neg h0]
    go_enter Try.func46, Try.ntmps46
    refine post_hid fun Q hQ => ?_
    go_wp2_with (first
      | (go_at_call 14; refine K.out.mono ?_; rintro e w1 ⟨rfl, hb⟩; have HB : Hid (Below w.heap.size w w1) := hb; clear hb))
    rw [hQ.out]
    go_ret
    exact ⟨ret_int' (by first | exact m6 | exact m5), HB.out.alloc HB.out.size _⟩
theorem leapBy_any (p : Nat) (s : Cs) (w : World) (h : Po w p s) (ok : OkC s) : Calls Try.prog 48 #[.iface 27 (.pointer (some ⟨p, 0, none⟩)), .int .i64 s.l] w fun e w' => e = .returned (.tuple #[]) ∧ Po w' p { s with e := lpE s.l s.e } ∧ w.grownBy w' (some p) := by
  have HP : Hid (Po w p s) := h
  have K1 : Hid (Calls Try.prog 9 #[.pointer (some ⟨p, 0, none⟩), .int .i64 (-4294967296)] w fun e w' => e = .returned (.tuple #[]) ∧ Po w' p (slewS s (-4294967296)) ∧ w.grownBy w' (some p)) := step_any p s _ w h ok (by omega)
  have K2 : Hid (Calls Try.prog 9 #[.pointer (some ⟨p, 0, none⟩), .int .i64 4294967296] w fun e w' => e = .returned (.tuple #[]) ∧ Po w' p (slewS s 4294967296) ∧ w.grownBy w' (some p)) := step_any p s _ w h ok (by omega)
  have e1 : Hid (s.l = 1 → slewS s (-4294967296) = { s with e := lpE s.l s.e }) := fun h => by unfold slewS lpE; rw [if_pos h]; congr 1
  have e2 : Hid (¬ s.l = 1 → s.l = 2 → slewS s 4294967296 = { s with e := lpE s.l s.e }) := fun h h2 => by unfold slewS lpE; rw [if_neg h, if_pos h2]
  have e3 : Hid (¬ s.l = 1 → ¬ s.l = 2 → s = { s with e := lpE s.l s.e }) := fun h h2 => by unfold lpE; rw [if_neg h, if_neg h2]
  clear h ok
  by_cases h1 : s.l = 1
  · rw [← e1.out h1, h1]
    clear e1 e2 e3
    go_enter Try.func48, Try.ntmps48
    refine post_hid fun Q hQ => ?_
    go_wp2_with (go_at_call 9; refine K1.out.mono ?_; rintro e w1 ⟨rfl, hb, hg⟩)
    rw [hQ.out]
    go_end0
    exact ⟨rfl, hb, hg⟩
  by_cases h2 : s.l = 2
  · rw [← e2.out h1 h2, h2]
    clear e1 e2 e3 h1
    go_enter Try.func48, Try.ntmps48
    refine post_hid fun Q hQ => ?_
    go_wp2_with (go_at_call 9; refine K2.out.mono ?_; rintro e w1 ⟨rfl, hb, hg⟩)
    rw [hQ.out]
    go_end0
    exact ⟨rfl, hb, hg⟩
  · rw [← e3.out h1 h2]
    clear e1 e2 e3
    go_enter Try.func48, Try.ntmps48
    refine post_hid fun Q hQ => ?_
    go_wp2_with fail
    rw [hQ.out]
    go_end0
    exact ⟨rfl, HP.out, grownBy_below (Below.refl _ _) _⟩
end Go.Proofs.Ytdmaaigchfgmdaa
