/- clock: the reference's At. -/
import Derived.Test.YtdmaaigchfgmdaaCkI
namespace Go.Proofs.Ytdmaaigchfgmdaa
open Go Go.RowKit Go.Sort
set_option linter.unusedVariables false
set_option maxRecDepth 20000 in
set_option maxHeartbeats 1000000 in
theorem rat_any (p0 : Nat) (s : Cs) (d : Int) (w : World) (h : Rp w p0 s) (ok : OkC s) (hd : -9223372036854775808 ≤ d ∧ d ≤ 9223372036854775807) : Calls Try.prog 43 #[.pointer (some ⟨p0, 0, none⟩), .int .i64 d] w fun e w' => e = .returned (.int .u64 (atT s d)) ∧ Below w.heap.size w w' := by
  obtain ⟨P, hP⟩ : ∃ t, s.r + s.f = t := ⟨_, rfl⟩
  obtain ⟨A, hA⟩ : ∃ t, atI (s.x + s.e) = t := ⟨_, rfl⟩
  obtain ⟨X, hX⟩ : ∃ X, sv (P * d / 281474976710656) = X := ⟨_, rfl⟩
  obtain ⟨Y, hY⟩ : ∃ Y, sv (d + X) = Y := ⟨_, rfl⟩
  obtain ⟨Z, hZ⟩ : ∃ X, atT s d = X := ⟨_, rfl⟩
  have r0 := ok.r0; have r1 := ok.r1; have f0 := ok.f0; have f1 := ok.f1
  have bX := sv_bd (P * d / 281474976710656)
  rw [hX] at bX
  have bA := atI_bd (s.x + s.e)
  rw [hA] at bA
  have K1 : Hid (∀ u, Rp u p0 s → Calls Try.prog 33 #[.pointer (some ⟨p0, 0, none⟩)] u fun r w' => r = .returned (.int .u64 A) ∧ Below u.heap.size u w') := fun u hu => by
    rw [← hA]; exact rnow_any p0 s u hu ok
  have K2 : Hid (∀ u, Calls Try.prog 61 #[.int .i64 P, .int .i64 d] u fun e w' => e = .returned (.int .i64 X) ∧ Below u.heap.size u w') := fun u => by
    rw [← hX]; exact rdrift_any P d u (by omega) (by omega) hd.1 hd.2
  have K3 : Hid (∀ u, Calls Try.prog 58 #[.int .i64 d, .int .i64 X] u fun e w' => e = .returned (.int .i64 Y) ∧ Below u.heap.size u w') := fun u => by
    rw [← hY]; exact radd_any _ _ u hd.1 hd.2 (by omega) (by omega)
  have K4 : Hid (∀ u, Calls Try.prog 60 #[.int .u64 A, .int .i64 Y] u fun e w' => e = .returned (.int .u64 Z) ∧ w' = u) := fun u => by
    have h := rtplus_any A Y u bA.1 bA.2
    have e : (A + Y) % 18446744073709551616 = Z := by rw [← hZ, ← hA, ← hY, ← hX, ← hP]; unfold atT atI; omega
    rw [e] at h; exact h
  have w2 : IntKind.i64.wrap (s.r + s.f) = P := by rw [IntWalk.i64_left, w64i _ (by omega) (by omega)]; exact hP
  have HP : Hid (Rp w p0 s) := h
  have HL : Hid (∀ u : World, Rp u p0 s → u.cell? ⟨p0, 3, none⟩ = some (.int .i64 s.r) ∧ u.cell? ⟨p0, 4, none⟩ = some (.int .i64 s.f)) := fun u hu => ⟨hu.cell 3, hu.cell 4⟩
  rw [hZ]
  clear h ok hd hP hA hX hY hZ bX bA r0 r1 f0 f1
  go_enter Try.func43, Try.ntmps43
  refine post_hid fun Q hQ => ?_
  refine seq_hid fun R hR => ?_
  go_wp2_with fail
  rw [hR.out]
  clear hR
  refine seq_hid fun R hR => ?_
  go_wp2_with fail
  refine wp_region_noPanic ?_
  refine wp_region_held_drew (S := fun w' => w'.cell? ⟨p0, 3, none⟩ = some (.int .i64 s.r) ∧ w'.cell? ⟨p0, 4, none⟩ = some (.int .i64 s.f)) (by kernel_rfl) (HL.out _ (Bk.kept HP.out rfl)) (fun hHeld => ?_)
  refine wpAnyH_takeD (some 5) (i := 0) (v := ?_) rfl (by kernel_rfl) (by kernel_rfl) (by kernel_rfl) (fun _ _ _ h => h) (Or.inl ⟨by rfl, ?_⟩) (by assumption) rfl ?_
  rotate_left
  · (intro w hSw; (try dsimp only at hSw); go_split_ands; go_simp; first | done | with_reducible rfl)
  simp only [Act.put, List.setIfInBounds_toArray, List.set_cons_zero, List.set_cons_succ]
  refine wpAnyH_takeD (some 7) (i := 2) (v := ?_) rfl (by kernel_rfl) (by kernel_rfl) (by kernel_rfl) (fun _ _ _ h => h) (Or.inl ⟨by rfl, ?_⟩) (by assumption) rfl ?_
  rotate_left
  · (intro w hSw; (try dsimp only at hSw); go_split_ands; go_simp; first | done | with_reducible rfl)
  simp only [Act.put, List.setIfInBounds_toArray, List.set_cons_zero, List.set_cons_succ]
  refine wpAnyH_takeD (some 8) (i := 3) (v := ?_) rfl (by kernel_rfl) (by kernel_rfl) (by kernel_rfl) (fun _ _ _ h => h) (Or.inl ⟨by rfl, ?_⟩) (by assumption) rfl ?_
  rotate_left
  · (intro w hSw; (try dsimp only at hSw); go_split_ands; go_simp; first | done | with_reducible rfl)
  simp only [Act.put, List.setIfInBounds_toArray, List.set_cons_zero, List.set_cons_succ]
  refine wpAnyH_takeD (some 9) (i := 4) (v := ?_) rfl (by kernel_rfl) (by kernel_rfl) (by kernel_rfl) (fun _ _ _ h => h) (Or.inl ⟨by rfl, ?_⟩) (by assumption) rfl ?_
  rotate_left
  · (intro w hSw; (try dsimp only at hSw); go_split_ands; go_simp; first | done | with_reducible rfl)
  simp only [Act.put, List.setIfInBounds_toArray, List.set_cons_zero, List.set_cons_succ]
  refine wpAnyH_takeD (some 10) (i := 5) (v := ?_) rfl (by kernel_rfl) (by kernel_rfl) (by kernel_rfl) (fun _ _ _ h => h) (Or.inl ⟨by rfl, ?_⟩) (by assumption) rfl ?_
  rotate_left
  · (intro w hSw; (try dsimp only at hSw); go_split_ands; go_simp; first | done | with_reducible rfl)
  simp only [Act.put, List.setIfInBounds_toArray, List.set_cons_zero, List.set_cons_succ]
  refine wpAnyH_takeD (some 11) (i := 6) (v := ?_) rfl (by kernel_rfl) (by kernel_rfl) (by kernel_rfl) (fun _ _ _ h => h) (Or.inl ⟨by rfl, ?_⟩) (by assumption) rfl ?_
  rotate_left
  · (intro w hSw; (try dsimp only at hSw); go_split_ands; go_simp; first | done | with_reducible rfl)
  simp only [Act.put, List.setIfInBounds_toArray, List.set_cons_zero, List.set_cons_succ]
  refine wpAnyH_takeD (some 12) (i := 7) (v := ?_) rfl (by kernel_rfl) (by kernel_rfl) (by kernel_rfl) (fun _ _ _ h => h) (Or.inl ⟨by rfl, ?_⟩) (by assumption) rfl ?_
  rotate_left
  · (intro w hSw; (try dsimp only at hSw); go_split_ands; go_simp; first | done | with_reducible rfl)
  simp only [Act.put, List.setIfInBounds_toArray, List.set_cons_zero, List.set_cons_succ]
  refine wpAnyH_takeD (some 13) (i := 8) (v := ?_) rfl (by kernel_rfl) (by kernel_rfl) (by kernel_rfl) (fun _ _ _ h => h) (Or.inl ⟨by rfl, ?_⟩) (by assumption) rfl ?_
  rotate_left
  · (intro w hSw; (try dsimp only at hSw); go_split_ands; go_simp; first | done | with_reducible rfl)
  simp only [Act.put, List.setIfInBounds_toArray, List.set_cons_zero, List.set_cons_succ]
  refine wpAnyH_takeD (some 14) (i := 9) (v := ?_) rfl (by kernel_rfl) (by kernel_rfl) (by kernel_rfl) (fun _ _ _ h => h) (Or.inl ⟨by rfl, ?_⟩) (by assumption) rfl ?_
  rotate_left
  · (intro w hSw; (try dsimp only at hSw); go_split_ands; go_simp; first | done | with_reducible rfl)
  simp only [Act.put, List.setIfInBounds_toArray, List.set_cons_zero, List.set_cons_succ]
  refine wpAnyH_takeD (some 15) (i := 10) (v := ?_) rfl (by kernel_rfl) (by kernel_rfl) (by kernel_rfl) (fun _ _ _ h => h) (Or.inl ⟨by rfl, ?_⟩) (by assumption) rfl ?_
  rotate_left
  · (intro w hSw; (try dsimp only at hSw); go_split_ands; go_simp; first | done | with_reducible rfl)
  simp only [Act.put, List.setIfInBounds_toArray, List.set_cons_zero, List.set_cons_succ]
  refine wpAnyH_takeD (some 16) (i := 11) (v := ?_) rfl (by kernel_rfl) (by kernel_rfl) (by kernel_rfl) (fun _ _ _ h => h) (Or.inl ⟨by rfl, ?_⟩) (by assumption) rfl ?_
  rotate_left
  · (intro w hSw; (try dsimp only at hSw); go_split_ands; go_simp; first | done | with_reducible rfl)
  simp only [Act.put, List.setIfInBounds_toArray, List.set_cons_zero, List.set_cons_succ]
  refine wpAnyH_takeD (some 17) (i := 12) (v := ?_) rfl (by kernel_rfl) (by kernel_rfl) (by kernel_rfl) (fun _ _ _ h => h) (Or.inl ⟨by rfl, ?_⟩) (by assumption) rfl ?_
  rotate_left
  · (intro w hSw; (try dsimp only at hSw); go_split_ands; go_simp; first | done | with_reducible rfl)
  simp only [Act.put, List.setIfInBounds_toArray, List.set_cons_zero, List.set_cons_succ]
  refine wpAnyH_ready (rs := [1]) (by kernel_rfl) (by simp) ?_
  refine AllReadyH.cons rfl (fun Kz hKz => ?_) AllReadyH.nil
  go_simp
  go_wp2_with (go_at_call 33; refine (K1.out w.drew (Bk.kept HP.out rfl)).mono ?_; rintro e w1 ⟨rfl, hb⟩; have H1 : Hid (Rp w1 p0 s ∧ Below w.heap.size w w1) := ⟨Bk.kept HP.out (hb.block _ (Bk.lt HP.out)), below_thru (Below.refl _ _).drew hb⟩; clear hb)
  refine hKz.out _ _ (HL.out _ H1.out.1) (fun hHeld => ?_)
  clear hKz Kz
  refine wpAnyH_ready (rs := [13]) (by kernel_rfl) (by simp) ?_
  refine AllReadyH.cons rfl (fun Kz hKz => ?_) AllReadyH.nil
  go_simp
  go_wp2_with (go_at_call 61; refine (K2.out _).mono ?_; rintro e w3 ⟨rfl, hb⟩; have H3 : Hid (Rp w3 p0 s ∧ Below w.heap.size w w3) := ⟨Bk.kept H1.out.1 (hb.block _ (Bk.lt H1.out.1)), below_thru H1.out.2 hb⟩; clear hb)
  refine hKz.out _ _ (HL.out _ H3.out.1) (fun hHeld => ?_)
  clear hKz Kz
  refine wpAnyH_ready (rs := [14]) (by kernel_rfl) (by simp) ?_
  refine AllReadyH.cons rfl (fun Kz hKz => ?_) AllReadyH.nil
  go_simp
  go_wp2_with (go_at_call 58; refine (K3.out _).mono ?_; rintro e w4 ⟨rfl, hb⟩; have H4 : Hid (Rp w4 p0 s ∧ Below w.heap.size w w4) := ⟨Bk.kept H3.out.1 (hb.block _ (Bk.lt H3.out.1)), below_thru H3.out.2 hb⟩; clear hb)
  refine hKz.out _ _ (HL.out _ H4.out.1) (fun hHeld => ?_)
  clear hKz Kz
  refine wpAnyH_ready (rs := [15]) (by kernel_rfl) (by simp) ?_
  refine AllReadyH.cons rfl (fun Kz hKz => ?_) AllReadyH.nil
  go_simp
  go_wp2_with (go_at_call 60; refine (K4.out _).mono ?_; rintro e w5 ⟨rfl, hw⟩; rw [hw]; clear hw)
  refine hKz.out _ _ (HL.out _ H4.out.1) (fun hHeld => ?_)
  clear hKz Kz
  refine wpAnyH_takeD (some 4) (i := 16) (v := ?_) rfl (by kernel_rfl) (by kernel_rfl) (by kernel_rfl) (fun _ _ _ h => h) (Or.inl ⟨by rfl, ?_⟩) (by assumption) rfl ?_
  rotate_left
  · (intro w hSw; (try dsimp only at hSw); go_split_ands; go_simp; first | done | with_reducible rfl)
  simp only [Act.put, List.setIfInBounds_toArray, List.set_cons_zero, List.set_cons_succ]
  refine wpAnyH_done (by kernel_rfl) ?_ _
  refine NoPanic.normal ?_
  go_wp2_with fail
  rw [hR.out]
  clear hR
  go_wp2_with fail
  rw [hQ.out]
  go_ret
  exact ⟨rfl, H4.out.2⟩
end Go.Proofs.Ytdmaaigchfgmdaa
