/- clock: both clocks do the same. -/
import Derived.Test.YtdmaaigchfgmdaaCkS
import Derived.Test.YtdmaaigchfgmdaaCkK
namespace Go.Proofs.Ytdmaaigchfgmdaa
open Go Go.RowKit Go.Sort
set_option linter.unusedVariables false
set_option maxRecDepth 20000 in
set_option maxHeartbeats 8000000 in
theorem does_any {w u : World} {p q : Nat} {s : Cs} (y : Stp) (hy : OkP y) (h : Wp w u p q s) : Calls Try.prog 20 #[.pointer (some ⟨p, 0, none⟩), .pointer (some ⟨q, 0, none⟩), .agg (spL y).toArray] u fun e w' => e = .returned (.bool true) ∧ ∃ s', Wp w w' p q s' := by
  obtain ⟨yk, yo, yj, yn⟩ := y
  have HP : Hid (Wp w u p q s) := h
  have HY : Hid ((-9223372036854775808 ≤ yo ∧ yo ≤ 9223372036854775807) ∧ (-9223372036854775808 ≤ yj ∧ yj ≤ 9223372036854775807) ∧ (-9223372036854775808 ≤ yn ∧ yn ≤ 9223372036854775807)) := ⟨hy.o, hy.j, hy.n⟩
  clear h hy
  simp only [spL]
  go_enter Try.func20, Try.ntmps20
  refine post_hid fun Q hQ => ?_
  refine seq_hid fun R hR => ?_
  go_wp2_with (refine step_boxL (by rfl) 47 _ rfl #[.int .i64 yk, .int .i64 yo, .int .i64 yj, .int .i64 yn] (by rfl) (fun u => by rfl) ?_; intro W g H1)
  rw [hR.out]
  clear hR
  have HW : Hid (Wp w W p q s ∧ Bk g W #[.int .i64 yk, .int .i64 yo, .int .i64 yj, .int .i64 yn] 47 ∧ g ≠ p ∧ g ≠ q) := ⟨HP.out.thru H1.out.be, H1.out.bk, fun e => by have := Bk.lt HP.out.c.po; have := H1.out.at'; omega, fun e => by have := Bk.lt HP.out.r; have := H1.out.at'; omega⟩
  clear HP H1
  have y0 : W.cell? ⟨g, 0, none⟩ = some (.int .i64 yk) := HW.out.2.1.cell 0
  have y1 : W.cell? ⟨g, 1, none⟩ = some (.int .i64 yo) := HW.out.2.1.cell 1
  have y2 : W.cell? ⟨g, 2, none⟩ = some (.int .i64 yj) := HW.out.2.1.cell 2
  have y3 : W.cell? ⟨g, 3, none⟩ = some (.int .i64 yn) := HW.out.2.1.cell 3
  by_cases e0 : yk = 0
  · subst e0
    obtain ⟨EE, hEE⟩ : ∃ E, (if paE s yo = true then 1 else 0 : Int) = E := ⟨_, rfl⟩
    have HE : Hid ((if paE s yo = true then 1 else 0 : Int) = EE) := hEE
    clear hEE
    go_upto_region 3 with fail
    refine wp_region_noPanic ?_
    refine wp_region_held_drew (S := fun w' => w'.cell? ⟨g, 1, none⟩ = some (.int .i64 yo)) (by kernel_rfl) (y1) (fun hHeld => ?_)
    refine wpAnyH_takeD (some 11) (i := 0) (v := ?_) rfl (by kernel_rfl) (by kernel_rfl) (by kernel_rfl) (fun _ _ _ h => h) (Or.inl ⟨by rfl, ?_⟩) (by assumption) rfl ?_
    rotate_left
    · (intro w hSw; (try dsimp only at hSw); go_split_ands; go_simp; first | done | with_reducible rfl)
    simp only [Act.put, List.setIfInBounds_toArray, List.set_cons_zero, List.set_cons_succ]
    refine wpAnyH_takeD (some 12) (i := 1) (v := ?_) rfl (by kernel_rfl) (by kernel_rfl) (by kernel_rfl) (fun _ _ _ h => h) (Or.inl ⟨by rfl, ?_⟩) (by assumption) rfl ?_
    rotate_left
    · (intro w hSw; (try dsimp only at hSw); go_split_ands; go_simp; first | done | with_reducible rfl)
    simp only [Act.put, List.setIfInBounds_toArray, List.set_cons_zero, List.set_cons_succ]
    refine wpAnyH_takeD (some 13) (i := 2) (v := ?_) rfl (by kernel_rfl) (by kernel_rfl) (by kernel_rfl) (fun _ _ _ h => h) (Or.inl ⟨by rfl, ?_⟩) (by assumption) rfl ?_
    rotate_left
    · (intro w hSw; (try dsimp only at hSw); go_split_ands; go_simp; first | done | with_reducible rfl)
    simp only [Act.put, List.setIfInBounds_toArray, List.set_cons_zero, List.set_cons_succ]
    refine wpAnyH_takeD (some 15) (i := 4) (v := ?_) rfl (by kernel_rfl) (by kernel_rfl) (by kernel_rfl) (fun _ _ _ h => h) (Or.inl ⟨by rfl, ?_⟩) (by assumption) rfl ?_
    rotate_left
    · (intro w hSw; (try dsimp only at hSw); go_split_ands; go_simp; first | done | with_reducible rfl)
    simp only [Act.put, List.setIfInBounds_toArray, List.set_cons_zero, List.set_cons_succ]
    refine wpAnyH_takeD (some 16) (i := 5) (v := ?_) rfl (by kernel_rfl) (by kernel_rfl) (by kernel_rfl) (fun _ _ _ h => h) (Or.inl ⟨by rfl, ?_⟩) (by assumption) rfl ?_
    rotate_left
    · (intro w hSw; (try dsimp only at hSw); go_split_ands; go_simp; first | done | with_reducible rfl)
    simp only [Act.put, List.setIfInBounds_toArray, List.set_cons_zero, List.set_cons_succ]
    refine wpAnyH_takeD (some 17) (i := 6) (v := ?_) rfl (by kernel_rfl) (by kernel_rfl) (by kernel_rfl) (fun _ _ _ h => h) (Or.inl ⟨by rfl, ?_⟩) (by assumption) rfl ?_
    rotate_left
    · (intro w hSw; (try dsimp only at hSw); go_split_ands; go_simp; first | done | with_reducible rfl)
    simp only [Act.put, List.setIfInBounds_toArray, List.set_cons_zero, List.set_cons_succ]
    refine wpAnyH_ready (rs := [3]) (by kernel_rfl) (by simp) ?_
    refine AllReadyH.cons rfl (fun Kz hKz => ?_) AllReadyH.nil
    go_simp
    go_wp2_with (go_at_call 10; have hK := pass_any p s yo W.drew (Bk.kept HW.out.1.c.po rfl) HW.out.1.c.ok; rw [HE.out] at hK; (with_reducible refine hK.mono ?_); clear hK; rintro e u1 ⟨rfl, h1, g1⟩; have H2 : Hid (Po u1 p (paS s yo) ∧ W.grownBy u1 (some p) ∧ Rp u1 q s ∧ Bk g u1 #[.int .i64 0, .int .i64 yo, .int .i64 yj, .int .i64 yn] 47) := ⟨h1, grownBy_trans (grownBy_drew _ _) g1, HW.out.1.rest (grownBy_trans (grownBy_drew _ _) g1), Bk.kept (v := W.drew) HW.out.2.1 (g1.block _ HW.out.2.1.lt (fun e => HW.out.2.2.1 (Option.some.inj e)))⟩; clear h1 g1)
    refine hKz.out _ _ (H2.out.2.2.2.cell 1) (fun hHeld => ?_)
    clear hKz Kz
    refine wpAnyH_ready (rs := [7]) (by kernel_rfl) (by simp) ?_
    refine AllReadyH.cons rfl (fun Kz hKz => ?_) AllReadyH.nil
    go_simp
    go_wp2_with (go_at_call 37; have hK := rpass_any q s yo u1 H2.out.2.2.1 HW.out.1.c.ok; rw [HE.out] at hK; (with_reducible refine hK.mono ?_); clear hK; rintro e u2 ⟨rfl, h2, g2⟩; have H3 : Hid (Wp w u2 p q (paS s yo) ∧ Bk g u2 #[.int .i64 0, .int .i64 yo, .int .i64 yj, .int .i64 yn] 47) := ⟨HW.out.1.both (HW.out.1.c.ok.pa _) H2.out.1 H2.out.2.1 h2 g2, Bk.kept H2.out.2.2.2 (g2.block _ H2.out.2.2.2.lt (fun e => HW.out.2.2.2 (Option.some.inj e)))⟩; clear h2 g2)
    refine hKz.out _ _ (H3.out.2.cell 1) (fun hHeld => ?_)
    clear hKz Kz
    refine wpAnyH_takeD (some 19) (i := 8) (v := ?_) rfl (by kernel_rfl) (by kernel_rfl) (by kernel_rfl) (fun _ _ _ h => h) (Or.inl ⟨by rfl, ?_⟩) (by assumption) rfl ?_
    rotate_left
    · (intro w hSw; (try dsimp only at hSw); go_split_ands; go_simp; first | done | with_reducible rfl)
    simp only [Act.put, List.setIfInBounds_toArray, List.set_cons_zero, List.set_cons_succ]
    refine wpAnyH_takeD (some 6) (i := 9) (v := ?_) rfl (by kernel_rfl) (by kernel_rfl) (by kernel_rfl) (fun _ _ _ h => h) (Or.inl ⟨by rfl, ?_⟩) (by assumption) rfl ?_
    rotate_left
    · (intro w hSw; (try dsimp only at hSw); go_split_ands; go_simp; first | done | with_reducible rfl)
    simp only [Act.put, List.setIfInBounds_toArray, List.set_cons_zero, List.set_cons_succ]
    refine wpAnyH_done (by kernel_rfl) ?_ _
    refine NoPanic.normal ?_
    go_wp2_with fail
    rw [hQ.out]
    go_ret
    exact ⟨rfl, _, H3.out.1⟩
  by_cases e1 : yk = 1
  · subst e1
    go_wp2_with (first
      | (go_at_call 8; have hK := slew_any p s yj W HW.out.1.c.po HW.out.1.c.ok HY.out.2.1; (with_reducible refine hK.mono ?_); clear hK; rintro e u1 ⟨rfl, h1, g1⟩; have H2 : Hid (Po u1 p (slewS s yj) ∧ W.grownBy u1 (some p) ∧ Rp u1 q s) := ⟨h1, g1, HW.out.1.rest g1⟩; have y2' : u1.cell? ⟨g, 2, none⟩ = some (.int .i64 yj) := (Bk.cell (Bk.kept HW.out.2.1 (g1.block _ HW.out.2.1.lt (fun e => HW.out.2.2.1 (Option.some.inj e)))) 2); clear h1 g1)
      | (go_at_call 38; have hK := rslew_any q s yj u1 H2.out.2.2 HW.out.1.c.ok HY.out.2.1; (with_reducible refine hK.mono ?_); clear hK; rintro e u2 ⟨rfl, h2, g2⟩; have H3 : Hid (Wp w u2 p q (slewS s yj)) := HW.out.1.both (HW.out.1.c.ok.slew _) H2.out.1 H2.out.2.1 h2 g2; clear h2 g2))
    rw [hQ.out]
    go_ret
    exact ⟨rfl, _, H3.out⟩
  by_cases e2 : yk = 2
  · subst e2
    go_wp2_with (first
      | (go_at_call 9; have hK := step_any p s yj W HW.out.1.c.po HW.out.1.c.ok HY.out.2.1; (with_reducible refine hK.mono ?_); clear hK; rintro e u1 ⟨rfl, h1, g1⟩; have H2 : Hid (Po u1 p (slewS s yj) ∧ W.grownBy u1 (some p) ∧ Rp u1 q s) := ⟨h1, g1, HW.out.1.rest g1⟩; have y2' : u1.cell? ⟨g, 2, none⟩ = some (.int .i64 yj) := (Bk.cell (Bk.kept HW.out.2.1 (g1.block _ HW.out.2.1.lt (fun e => HW.out.2.2.1 (Option.some.inj e)))) 2); clear h1 g1)
      | (go_at_call 38; have hK := rslew_any q s yj u1 H2.out.2.2 HW.out.1.c.ok HY.out.2.1; (with_reducible refine hK.mono ?_); clear hK; rintro e u2 ⟨rfl, h2, g2⟩; have H3 : Hid (Wp w u2 p q (slewS s yj)) := HW.out.1.both (HW.out.1.c.ok.slew _) H2.out.1 H2.out.2.1 h2 g2; clear h2 g2))
    rw [hQ.out]
    go_ret
    exact ⟨rfl, _, H3.out⟩
  by_cases e3 : yk = 3
  · subst e3
    go_wp2_with (first
      | (go_at_call 21; have hK := setFreq_any p s yn W HW.out.1.c.po; (with_reducible refine hK.mono ?_); clear hK; rintro e u1 ⟨rfl, h1, g1⟩; have H2 : Hid (Po u1 p (sfS s yn) ∧ W.grownBy u1 (some p) ∧ Rp u1 q s) := ⟨h1, g1, HW.out.1.rest g1⟩; have y3' : u1.cell? ⟨g, 3, none⟩ = some (.int .i64 yn) := (Bk.cell (Bk.kept HW.out.2.1 (g1.block _ HW.out.2.1.lt (fun e => HW.out.2.2.1 (Option.some.inj e)))) 3); clear h1 g1)
      | (go_at_call 39; have hK := rsetFreq_any q s yn u1 H2.out.2.2 HY.out.2.2; (with_reducible refine hK.mono ?_); clear hK; rintro e u2 ⟨rfl, h2, g2⟩; have H3 : Hid (Wp w u2 p q (sfS s yn)) := HW.out.1.both (HW.out.1.c.ok.sf _) H2.out.1 H2.out.2.1 h2 g2; clear h2 g2))
    rw [hQ.out]
    go_ret
    exact ⟨rfl, _, H3.out⟩
  by_cases e4 : yk = 4
  · subst e4
    go_wp2_with (first
      | (go_at_call 30; have hK := setRate_any p s yn W HW.out.1.c.po; (with_reducible refine hK.mono ?_); clear hK; rintro e u1 ⟨rfl, h1, g1⟩; have H2 : Hid (Po u1 p (srS s yn) ∧ W.grownBy u1 (some p) ∧ Rp u1 q s) := ⟨h1, g1, HW.out.1.rest g1⟩; have y3' : u1.cell? ⟨g, 3, none⟩ = some (.int .i64 yn) := (Bk.cell (Bk.kept HW.out.2.1 (g1.block _ HW.out.2.1.lt (fun e => HW.out.2.2.1 (Option.some.inj e)))) 3); clear h1 g1)
      | (go_at_call 40; have hK := rsetRate_any q s yn u1 H2.out.2.2 HY.out.2.2; (with_reducible refine hK.mono ?_); clear hK; rintro e u2 ⟨rfl, h2, g2⟩; have H3 : Hid (Wp w u2 p q (srS s yn)) := HW.out.1.both (HW.out.1.c.ok.sr _) H2.out.1 H2.out.2.1 h2 g2; clear h2 g2))
    rw [hQ.out]
    go_ret
    exact ⟨rfl, _, H3.out⟩
  by_cases e5 : yk = 5
  · subst e5
    obtain ⟨EE, hEE⟩ : ∃ E, decide (0 ≤ yo ∧ yo ≤ 2) = E := ⟨_, rfl⟩
    have HE : Hid (decide (0 ≤ yo ∧ yo ≤ 2) = EE) := hEE
    clear hEE
    go_upto_region 17 with fail
    refine wp_region_noPanic ?_
    refine wp_region_held_drew (S := fun w' => w'.cell? ⟨g, 1, none⟩ = some (.int .i64 yo)) (by kernel_rfl) (y1) (fun hHeld => ?_)
    refine wpAnyH_takeD (some 62) (i := 0) (v := ?_) rfl (by kernel_rfl) (by kernel_rfl) (by kernel_rfl) (fun _ _ _ h => h) (Or.inl ⟨by rfl, ?_⟩) (by assumption) rfl ?_
    rotate_left
    · (intro w hSw; (try dsimp only at hSw); go_split_ands; go_simp; first | done | with_reducible rfl)
    simp only [Act.put, List.setIfInBounds_toArray, List.set_cons_zero, List.set_cons_succ]
    refine wpAnyH_takeD (some 63) (i := 1) (v := ?_) rfl (by kernel_rfl) (by kernel_rfl) (by kernel_rfl) (fun _ _ _ h => h) (Or.inl ⟨by rfl, ?_⟩) (by assumption) rfl ?_
    rotate_left
    · (intro w hSw; (try dsimp only at hSw); go_split_ands; go_simp; first | done | with_reducible rfl)
    simp only [Act.put, List.setIfInBounds_toArray, List.set_cons_zero, List.set_cons_succ]
    refine wpAnyH_takeD (some 64) (i := 2) (v := ?_) rfl (by kernel_rfl) (by kernel_rfl) (by kernel_rfl) (fun _ _ _ h => h) (Or.inl ⟨by rfl, ?_⟩) (by assumption) rfl ?_
    rotate_left
    · (intro w hSw; (try dsimp only at hSw); go_split_ands; go_simp; first | done | with_reducible rfl)
    simp only [Act.put, List.setIfInBounds_toArray, List.set_cons_zero, List.set_cons_succ]
    refine wpAnyH_takeD (some 66) (i := 4) (v := ?_) rfl (by kernel_rfl) (by kernel_rfl) (by kernel_rfl) (fun _ _ _ h => h) (Or.inl ⟨by rfl, ?_⟩) (by assumption) rfl ?_
    rotate_left
    · (intro w hSw; (try dsimp only at hSw); go_split_ands; go_simp; first | done | with_reducible rfl)
    simp only [Act.put, List.setIfInBounds_toArray, List.set_cons_zero, List.set_cons_succ]
    refine wpAnyH_takeD (some 67) (i := 5) (v := ?_) rfl (by kernel_rfl) (by kernel_rfl) (by kernel_rfl) (fun _ _ _ h => h) (Or.inl ⟨by rfl, ?_⟩) (by assumption) rfl ?_
    rotate_left
    · (intro w hSw; (try dsimp only at hSw); go_split_ands; go_simp; first | done | with_reducible rfl)
    simp only [Act.put, List.setIfInBounds_toArray, List.set_cons_zero, List.set_cons_succ]
    refine wpAnyH_takeD (some 68) (i := 6) (v := ?_) rfl (by kernel_rfl) (by kernel_rfl) (by kernel_rfl) (fun _ _ _ h => h) (Or.inl ⟨by rfl, ?_⟩) (by assumption) rfl ?_
    rotate_left
    · (intro w hSw; (try dsimp only at hSw); go_split_ands; go_simp; first | done | with_reducible rfl)
    simp only [Act.put, List.setIfInBounds_toArray, List.set_cons_zero, List.set_cons_succ]
    refine wpAnyH_ready (rs := [3]) (by kernel_rfl) (by simp) ?_
    refine AllReadyH.cons rfl (fun Kz hKz => ?_) AllReadyH.nil
    go_simp
    go_wp2_with (go_at_call 23; have hK := setLeap_any p s yo W.drew (Bk.kept HW.out.1.c.po rfl); rw [HE.out] at hK; (with_reducible refine hK.mono ?_); clear hK; rintro e u1 ⟨rfl, h1, g1⟩; have H2 : Hid (Po u1 p (slS s yo) ∧ W.grownBy u1 (some p) ∧ Rp u1 q s ∧ Bk g u1 #[.int .i64 5, .int .i64 yo, .int .i64 yj, .int .i64 yn] 47) := ⟨h1, grownBy_trans (grownBy_drew _ _) g1, HW.out.1.rest (grownBy_trans (grownBy_drew _ _) g1), Bk.kept (v := W.drew) HW.out.2.1 (g1.block _ HW.out.2.1.lt (fun e => HW.out.2.2.1 (Option.some.inj e)))⟩; clear h1 g1)
    refine hKz.out _ _ (H2.out.2.2.2.cell 1) (fun hHeld => ?_)
    clear hKz Kz
    refine wpAnyH_ready (rs := [7]) (by kernel_rfl) (by simp) ?_
    refine AllReadyH.cons rfl (fun Kz hKz => ?_) AllReadyH.nil
    go_simp
    go_wp2_with (go_at_call 41; have hK := rsetLeap_any q s yo u1 H2.out.2.2.1; rw [HE.out] at hK; (with_reducible refine hK.mono ?_); clear hK; rintro e u2 ⟨rfl, h2, g2⟩; have H3 : Hid (Wp w u2 p q (slS s yo) ∧ Bk g u2 #[.int .i64 5, .int .i64 yo, .int .i64 yj, .int .i64 yn] 47) := ⟨HW.out.1.both (HW.out.1.c.ok.sl _) H2.out.1 H2.out.2.1 h2 g2, Bk.kept H2.out.2.2.2 (g2.block _ H2.out.2.2.2.lt (fun e => HW.out.2.2.2 (Option.some.inj e)))⟩; clear h2 g2)
    refine hKz.out _ _ (H3.out.2.cell 1) (fun hHeld => ?_)
    clear hKz Kz
    refine wpAnyH_takeD (some 70) (i := 8) (v := ?_) rfl (by kernel_rfl) (by kernel_rfl) (by kernel_rfl) (fun _ _ _ h => h) (Or.inl ⟨by rfl, ?_⟩) (by assumption) rfl ?_
    rotate_left
    · (intro w hSw; (try dsimp only at hSw); go_split_ands; go_simp; first | done | with_reducible rfl)
    simp only [Act.put, List.setIfInBounds_toArray, List.set_cons_zero, List.set_cons_succ]
    refine wpAnyH_takeD (some 6) (i := 9) (v := ?_) rfl (by kernel_rfl) (by kernel_rfl) (by kernel_rfl) (fun _ _ _ h => h) (Or.inl ⟨by rfl, ?_⟩) (by assumption) rfl ?_
    rotate_left
    · (intro w hSw; (try dsimp only at hSw); go_split_ands; go_simp; first | done | with_reducible rfl)
    simp only [Act.put, List.setIfInBounds_toArray, List.set_cons_zero, List.set_cons_succ]
    refine wpAnyH_done (by kernel_rfl) ?_ _
    refine NoPanic.normal ?_
    go_wp2_with fail
    rw [hQ.out]
    go_ret
    exact ⟨rfl, _, H3.out.1⟩
  by_cases e6 : yk = 6
  · subst e6
    obtain ⟨EE, hEE⟩ : ∃ E, atT s yj = E := ⟨_, rfl⟩
    have HE : Hid (atT s yj = EE) := hEE
    clear hEE
    go_upto_region 19 with fail
    refine wp_region_noPanic ?_
    refine wp_region_held_drew (S := fun w' => w'.cell? ⟨g, 2, none⟩ = some (.int .i64 yj)) (by kernel_rfl) (y2) (fun hHeld => ?_)
    refine wpAnyH_takeD (some 73) (i := 0) (v := ?_) rfl (by kernel_rfl) (by kernel_rfl) (by kernel_rfl) (fun _ _ _ h => h) (Or.inl ⟨by rfl, ?_⟩) (by assumption) rfl ?_
    rotate_left
    · (intro w hSw; (try dsimp only at hSw); go_split_ands; go_simp; first | done | with_reducible rfl)
    simp only [Act.put, List.setIfInBounds_toArray, List.set_cons_zero, List.set_cons_succ]
    refine wpAnyH_takeD (some 74) (i := 1) (v := ?_) rfl (by kernel_rfl) (by kernel_rfl) (by kernel_rfl) (fun _ _ _ h => h) (Or.inl ⟨by rfl, ?_⟩) (by assumption) rfl ?_
    rotate_left
    · (intro w hSw; (try dsimp only at hSw); go_split_ands; go_simp; first | done | with_reducible rfl)
    simp only [Act.put, List.setIfInBounds_toArray, List.set_cons_zero, List.set_cons_succ]
    refine wpAnyH_takeD (some 75) (i := 2) (v := ?_) rfl (by kernel_rfl) (by kernel_rfl) (by kernel_rfl) (fun _ _ _ h => h) (Or.inl ⟨by rfl, ?_⟩) (by assumption) rfl ?_
    rotate_left
    · (intro w hSw; (try dsimp only at hSw); go_split_ands; go_simp; first | done | with_reducible rfl)
    simp only [Act.put, List.setIfInBounds_toArray, List.set_cons_zero, List.set_cons_succ]
    refine wpAnyH_takeD (some 77) (i := 4) (v := ?_) rfl (by kernel_rfl) (by kernel_rfl) (by kernel_rfl) (fun _ _ _ h => h) (Or.inl ⟨by rfl, ?_⟩) (by assumption) rfl ?_
    rotate_left
    · (intro w hSw; (try dsimp only at hSw); go_split_ands; go_simp; first | done | with_reducible rfl)
    simp only [Act.put, List.setIfInBounds_toArray, List.set_cons_zero, List.set_cons_succ]
    refine wpAnyH_takeD (some 78) (i := 5) (v := ?_) rfl (by kernel_rfl) (by kernel_rfl) (by kernel_rfl) (fun _ _ _ h => h) (Or.inl ⟨by rfl, ?_⟩) (by assumption) rfl ?_
    rotate_left
    · (intro w hSw; (try dsimp only at hSw); go_split_ands; go_simp; first | done | with_reducible rfl)
    simp only [Act.put, List.setIfInBounds_toArray, List.set_cons_zero, List.set_cons_succ]
    refine wpAnyH_takeD (some 79) (i := 6) (v := ?_) rfl (by kernel_rfl) (by kernel_rfl) (by kernel_rfl) (fun _ _ _ h => h) (Or.inl ⟨by rfl, ?_⟩) (by assumption) rfl ?_
    rotate_left
    · (intro w hSw; (try dsimp only at hSw); go_split_ands; go_simp; first | done | with_reducible rfl)
    simp only [Act.put, List.setIfInBounds_toArray, List.set_cons_zero, List.set_cons_succ]
    refine wpAnyH_ready (rs := [3]) (by kernel_rfl) (by simp) ?_
    refine AllReadyH.cons rfl (fun Kz hKz => ?_) AllReadyH.nil
    go_simp
    go_wp2_with (go_at_call 42; have hK := at_any p s yj W.drew (Bk.kept HW.out.1.c.po rfl) HW.out.1.c.ok HY.out.2.1; rw [HE.out] at hK; (with_reducible refine hK.mono ?_); clear hK; rintro e u1 ⟨rfl, hb⟩; have H2 : Hid (Wp w u1 p q s ∧ Bk g u1 #[.int .i64 6, .int .i64 yo, .int .i64 yj, .int .i64 yn] 47) := ⟨(HW.out.1.thru (Below.drew (Below.refl _ _))).thru hb, Bk.kept (v := W.drew) HW.out.2.1 (hb.block _ HW.out.2.1.lt)⟩; clear hb)
    refine hKz.out _ _ (H2.out.2.cell 2) (fun hHeld => ?_)
    clear hKz Kz
    refine wpAnyH_ready (rs := [7]) (by kernel_rfl) (by simp) ?_
    refine AllReadyH.cons rfl (fun Kz hKz => ?_) AllReadyH.nil
    go_simp
    go_wp2_with (go_at_call 43; have hK := rat_any q s yj u1 H2.out.1.r H2.out.1.c.ok HY.out.2.1; rw [HE.out] at hK; (with_reducible refine hK.mono ?_); clear hK; rintro e u2 ⟨rfl, hb⟩; have H3 : Hid (Wp w u2 p q s ∧ Bk g u2 #[.int .i64 6, .int .i64 yo, .int .i64 yj, .int .i64 yn] 47) := ⟨H2.out.1.thru hb, Bk.kept H2.out.2 (hb.block _ H2.out.2.lt)⟩; clear hb)
    refine hKz.out _ _ (H3.out.2.cell 2) (fun hHeld => ?_)
    clear hKz Kz
    refine wpAnyH_takeD (some 81) (i := 8) (v := ?_) rfl (by kernel_rfl) (by kernel_rfl) (by kernel_rfl) (fun _ _ _ h => h) (Or.inl ⟨by rfl, ?_⟩) (by assumption) rfl ?_
    rotate_left
    · (intro w hSw; (try dsimp only at hSw); go_split_ands; go_simp; first | done | with_reducible rfl)
    simp only [Act.put, List.setIfInBounds_toArray, List.set_cons_zero, List.set_cons_succ]
    refine wpAnyH_takeD (some 6) (i := 9) (v := ?_) rfl (by kernel_rfl) (by kernel_rfl) (by kernel_rfl) (fun _ _ _ h => h) (Or.inl ⟨by rfl, ?_⟩) (by assumption) rfl ?_
    rotate_left
    · (intro w hSw; (try dsimp only at hSw); go_split_ands; go_simp; first | done | with_reducible rfl)
    simp only [Act.put, List.setIfInBounds_toArray, List.set_cons_zero, List.set_cons_succ]
    refine wpAnyH_done (by kernel_rfl) ?_ _
    refine NoPanic.normal ?_
    go_wp2_with fail
    rw [hQ.out]
    go_ret
    exact ⟨rfl, _, H3.out.1⟩
  · go_wp2_with fail
    rw [hQ.out]
    go_ret
    exact ⟨rfl, _, HW.out.1⟩
end Go.Proofs.Ytdmaaigchfgmdaa
