/- clock: the oscillator's beat; days. -/
import Derived.Test.YtdmaaigchfgmdaaCkC
namespace Go.Proofs.Ytdmaaigchfgmdaa
open Go Go.RowKit Go.Sort
set_option linter.unusedVariables false
def beatS (s : Cs) : Cs := { s with q := (s.q + s.r + s.f) % 65536 }
set_option maxHeartbeats 1000000 in
theorem beat_any (p0 : Nat) (s : Cs) (w : World) (h : Po w p0 s) (ok : OkC s) : Calls Try.prog 87 #[.pointer (some ⟨p0, 3, none⟩)] w fun e w' => e = .returned (.int .i64 ((s.q + s.r + s.f) / 65536)) ∧ Po w' p0 (beatS s) ∧ w.grownBy w' (some p0) := by
  obtain ⟨a1, a2, a3, a4, a5, a6, a7, a8, a9, a10, a11, a12, a13, a14⟩ := ok
  obtain ⟨T, hT⟩ : ∃ T, s.q + (s.r + s.f) = T := ⟨_, rfl⟩
  obtain ⟨P, hP⟩ : ∃ T, s.r + s.f = T := ⟨_, rfl⟩
  obtain ⟨q, hq⟩ : ∃ T, s.q = T := ⟨_, rfl⟩
  obtain ⟨M, hM⟩ : ∃ M, T / 65536 = M := ⟨_, rfl⟩
  obtain ⟨N, hN⟩ : ∃ N, T % 65536 = N := ⟨_, rfl⟩
  have HE : Hid ((s.q + s.r + s.f) / 65536 = M ∧ beatS s = { s with q := N }) := by
    constructor
    · rw [Int.add_assoc, hT, hM]
    · unfold beatS; rw [Int.add_assoc, hT, hN]
  have HP : Hid (Po w p0 s) := h
  have HQ : Hid (s.q = q) := hq
  have w1 : wrap64 (q + P) = T := by rw [w64i _ (by omega) (by omega)]; omega
  have w2 : IntKind.i64.wrap (q + P) = T := by rw [IntWalk.i64_left]; exact w1
  have m1 : wrap64 (M * 65536) = M * 65536 := w64i _ (by omega) (by omega)
  have m3 : T - M * 65536 = N := by omega
  have m2 : wrap64 (T - M * 65536) = N := by rw [w64i _ (by omega) (by omega)]; omega
  have K : Hid (∀ u, u.cell? ⟨p0, 3, none⟩ = some (.int .i64 s.r) → u.cell? ⟨p0, 4, none⟩ = some (.int .i64 s.f) → Calls Try.prog 89 #[.pointer (some ⟨p0, 3, none⟩)] u fun e w' => e = .returned (.int .i64 P) ∧ ∃ n, w' = u.drewN n) := fun u h3 h4 => by
    rw [← hP]; exact pace_any p0 s.r s.f u h3 h4 ⟨a5, a6⟩ ⟨a7, a8⟩
  have HL : Hid (∀ n, (w.drewN n).cell? ⟨p0, 5, none⟩ = some (.int .i64 q) ∧ (w.drewN n).cell? ⟨p0, 3, none⟩ = some (.int .i64 s.r) ∧ (w.drewN n).cell? ⟨p0, 4, none⟩ = some (.int .i64 s.f)) := fun n => by
    rw [← hq]; exact ⟨h.cell 5, h.cell 3, h.cell 4⟩
  rw [HE.out.1, HE.out.2]
  clear h a1 a2 a3 a4 a5 a6 a7 a8 a9 a10 a11 a12 a13 a14 hT hP hq hN HE
  go_enter Try.func87, Try.ntmps87
  refine post_hid fun Q hQ => ?_
  refine seq_hid fun R hR => ?_
  go_wp2_with fail
  rw [hR.out]
  clear hR
  refine seq_hid fun R hR => ?_
  go_wp2_with fail
  refine wp_region_lastH (S := fun w' => w'.cell? ⟨p0, 5, none⟩ = some (.int .i64 q)) (by kernel_rfl) (by kernel_rfl) (by rfl) ((HL.out 1).1) (fun hHeld => ?_)
  simp only [idleLast, idle]
  refine wpAnyH_takeD (some 4) (i := 0) (v := ?_) rfl (by kernel_rfl) (by kernel_rfl) (by kernel_rfl) (fun _ _ _ h => h) (Or.inl ⟨by rfl, ?_⟩) (by assumption) rfl ?_
  rotate_left
  · (intro w hSw; (try dsimp only at hSw); go_split_ands; go_simp; first | done | with_reducible rfl)
  simp only [Act.put, List.setIfInBounds_toArray, List.set_cons_zero, List.set_cons_succ]
  refine wpAnyH_takeD (some 5) (i := 1) (v := ?_) rfl (by kernel_rfl) (by kernel_rfl) (by kernel_rfl) (fun _ _ _ h => h) (Or.inl ⟨by rfl, ?_⟩) (by assumption) rfl ?_
  rotate_left
  · (intro w hSw; (try dsimp only at hSw); go_split_ands; go_simp; first | done | with_reducible rfl)
  simp only [Act.put, List.setIfInBounds_toArray, List.set_cons_zero, List.set_cons_succ]
  refine wpAnyH_takeD (some 6) (i := 2) (v := ?_) rfl (by kernel_rfl) (by kernel_rfl) (by kernel_rfl) (fun _ _ _ h => h) (Or.inl ⟨by rfl, ?_⟩) (by assumption) rfl ?_
  rotate_left
  · (intro w hSw; (try dsimp only at hSw); go_split_ands; go_simp; first | done | with_reducible rfl)
  simp only [Act.put, List.setIfInBounds_toArray, List.set_cons_zero, List.set_cons_succ]
  refine wpAnyH_takeD (some 7) (i := 3) (v := ?_) rfl (by kernel_rfl) (by kernel_rfl) (by kernel_rfl) (fun _ _ _ h => h) (Or.inl ⟨by rfl, ?_⟩) (by assumption) rfl ?_
  rotate_left
  · (intro w hSw; (try dsimp only at hSw); go_split_ands; go_simp; first | done | with_reducible rfl)
  simp only [Act.put, List.setIfInBounds_toArray, List.set_cons_zero, List.set_cons_succ]
  refine wpAnyH_takeD (some 8) (i := 4) (v := ?_) rfl (by kernel_rfl) (by kernel_rfl) (by kernel_rfl) (fun _ _ _ h => h) (Or.inl ⟨by rfl, ?_⟩) (by assumption) rfl ?_
  rotate_left
  · (intro w hSw; (try dsimp only at hSw); go_split_ands; go_simp; first | done | with_reducible rfl)
  simp only [Act.put, List.setIfInBounds_toArray, List.set_cons_zero, List.set_cons_succ]
  refine wpAnyH_ready (rs := [5]) (by kernel_rfl) (by simp) ?_
  refine AllReadyH.cons rfl (fun Kz hKz => ?_) AllReadyH.nil
  go_simp
  go_wp2_with (go_at_call 89; (refine (K.out _ (HL.out 1).2.1 (HL.out 1).2.2).mono ?_; rintro e w3 ⟨rfl, n, hw⟩; have HS : Hid (Po w3 p0 s ∧ w.grownBy w3 (some p0)) := (by rw [hw]; exact ⟨Bk.kept HP.out rfl, grownBy_trans (grownBy_drew _ _) (grownBy_drewN _ _ _)⟩); clear hw))
  refine hKz.out _ _ (by rw [← HQ.out]; exact HS.out.1.cell 5) (fun hHeld => ?_)
  clear hKz Kz
  refine wpAnyH_takeD (some 10) (i := 6) (v := ?_) rfl (by kernel_rfl) (by kernel_rfl) (by kernel_rfl) (fun _ _ _ h => h) (Or.inl ⟨by rfl, ?_⟩) (by assumption) rfl ?_
  rotate_left
  · (intro w hSw; (try dsimp only at hSw); go_split_ands; go_simp; first | done | with_reducible rfl)
  simp only [Act.put, List.setIfInBounds_toArray, List.set_cons_zero, List.set_cons_succ]
  refine wpAnyH_takeD (some 11) (i := 7) (v := ?_) rfl (by kernel_rfl) (by kernel_rfl) (by kernel_rfl) (fun _ _ _ h => h) (Or.inl ⟨by rfl, ?_⟩) (by assumption) rfl ?_
  rotate_left
  · (intro w hSw; (try dsimp only at hSw); go_split_ands; go_simp; first | done | with_reducible rfl)
  simp only [Act.put, List.setIfInBounds_toArray, List.set_cons_zero, List.set_cons_succ]
  refine wpAnyH_takeD (some 12) (i := 8) (v := ?_) rfl (by kernel_rfl) (by kernel_rfl) (by kernel_rfl) (fun _ _ _ h => h) (Or.inl ⟨by rfl, ?_⟩) (by assumption) rfl ?_
  rotate_left
  · (intro w hSw; (try dsimp only at hSw); go_split_ands; go_simp; first | done | with_reducible rfl)
  simp only [Act.put, List.setIfInBounds_toArray, List.set_cons_zero, List.set_cons_succ]
  refine wpAnyH_idle (i := 9) (v := .bool true) rfl (by kernel_rfl) (by kernel_rfl) (by kernel_rfl) (fun _ _ _ h => h) (Or.inl ⟨by rfl, fun _ _ => rfl⟩) (by assumption) rfl ?_
  refine wpAnyH_done (by kernel_rfl) ?_ _
  refine lastQ_of _ rfl ?_
  refine step_st1 (by rfl) _ _ rfl p0 5 (.int .i64 T) (by rfl) (by simp [Act.eval]) (by rfl) (by kernel_rfl) (by rfl) (csL s) (by simp [csL]) HS.out.1 ?_
  intro W4 H4
  simp only [put_none, wpList]
  go_wp2_with fail
  rw [hR.out]
  clear hR
  have c5 : W4.cell? ⟨p0, 5, none⟩ = some (.int .i64 T) := H4.out.bk.cell 5
  have f5 : W4.frozen? ⟨p0, 5, none⟩ = false := H4.out.bk.frozen 5
  go_wp2_with fail

  rw [hQ.out]
  go_ret
  exact ⟨rfl, H4.out.bk.set (j := 5) _, grownBy_trans (grownBy_trans HS.out.2 H4.out.gr) (grownBy_set _ ⟨p0, 5, none⟩ _)⟩
end Go.Proofs.Ytdmaaigchfgmdaa
