/- The reference's Update. -/
import Derived.Test.YtbagfnafkpbanaaLpF
namespace Go.Proofs.Ytbagfnafkpbanaa
open Go Go.RowKit Go.Sort
set_option linter.unusedVariables false
set_option maxHeartbeats 4000000 in
theorem rupdate_any (q : Nat) (s : Lp) (o j n : Int) (w : World) (h : Rp w q s) (hs : OkL s) (ho : -9223372036854775808 ≤ o ∧ o ≤ 9223372036854775807) (hj : -9223372036854775808 ≤ j ∧ j ≤ 9223372036854775807) : Calls Try.prog 19 #[.pointer (some ⟨q, 0, none⟩), .int .i64 o, .int .i64 j, .int .i64 n] w fun e w' => e = .returned (.tuple #[.int .i64 (upd s o j n).2.1, .int .i64 (upd s o j n).2.2]) ∧ Rp w' q (upd s o j n).1 ∧ w.grownBy w' (some q) := by
  obtain ⟨O, hO⟩ : ∃ O, sv o = O := ⟨_, rfl⟩
  obtain ⟨N, hN⟩ : ∃ N, ck n = N := ⟨_, rfl⟩
  have bO := sv_bd o
  rw [hO] at bO
  have bN := ck_bd n
  rw [hN] at bN
  have HU : Hid (upd s o j n = updS s O j N) := by show _ = _; unfold upd; rw [hO, hN]
  rw [HU.out]
  obtain ⟨Z, hZ⟩ : ∃ Z, szS O = Z := ⟨_, rfl⟩
  obtain ⟨D, hD⟩ : ∃ D, sinS s N = D := ⟨_, rfl⟩
  have bD : 0 ≤ D ∧ D ≤ 1073741824 := by have := hs.w0; rw [← hD]; unfold sinS; omega
  obtain ⟨n1, hn1⟩ : ∃ n1, min n 1073741824 = n1 := ⟨_, rfl⟩
  have H0 : Hid (Rp w q s ∧ w.grownBy w (some q)) := ⟨h, grownBy_drewN w 0 _⟩
  have HP : Hid (Rp w q s ∧ OkL s) := ⟨h, hs⟩
  have HB : Hid ((-4611686018427387904 ≤ O ∧ O ≤ 4611686018427387904) ∧ (0 ≤ N ∧ N ≤ 1073741824) ∧ (0 ≤ D ∧ D ≤ 1073741824) ∧ (-9223372036854775808 ≤ j ∧ j ≤ 9223372036854775807)) := ⟨bO, bN, bD, hj⟩
  have HZ : Hid (szS O = Z ∧ sinS s N = D) := ⟨hZ, hD⟩
  have K1 : Hid (∀ u, Calls Try.prog 32 #[.int .i64 o, .int .i64 0] u fun e w' => e = .returned (.int .i64 O) ∧ Below u.heap.size u w') := fun u => by rw [← hO]; have := radd_any o 0 u (by omega) (by omega) (by omega) (by omega); rw [Int.add_zero] at this; exact this
  have K2 : Hid (∀ u, Calls Try.prog 33 #[.int .i64 O] u fun e w' => e = .returned (.int .i64 Z) ∧ Below u.heap.size u w') := fun u => by rw [← hZ]; exact rabs_any _ _ (by omega) (by omega)
  have mn1 : ∀ u, (Builtin.min_ #[3, 3] 3 #[.int .i64 n, .int .i64 1073741824]).run Try.prog u = .ok (.int .i64 n1) u := fun u => by rw [run_mn, hn1]
  have mx1 : ∀ u, (Builtin.max_ #[3, 3] 3 #[.int .i64 0, .int .i64 n1]).run Try.prog u = .ok (.int .i64 N) u := fun u => by
    rw [run_mx, ← hN, ← hn1]; rfl
  clear h hs hO hN hZ hD hn1 bO bN bD ho hj
  by_cases hp : s.panics < Z
  · have hu : Hid (updS s O j N = (s, 3, 0)) := by show _ = _; unfold updS; rw [HZ.out.1, if_pos hp]
    go_enter Try.func19, Try.ntmps19
    refine post_hid fun Q hQ => ?_
    refine seq_hid fun R hR => ?_
    go_wp2_with fail
    rw [hR.out]
    clear hR
    refine seq_hid fun R hR => ?_
    go_wp2_with (go_at_call 32; refine (K1.out _).mono ?_; rintro e w1 ⟨rfl, hb1⟩; have H1 : Hid (Rp w1 q s ∧ w.grownBy w1 (some q)) := (⟨H0.out.1.kept hb1, grownBy_gr H0.out.2 hb1⟩); clear hb1)
    rw [hR.out]
    clear hR
    refine seq_hid fun R hR => ?_
    go_wp2_with fail
    rw [hR.out]
    clear hR
    refine seq_hid fun R hR => ?_
    go_wp2_with (go_at_call 33; refine (K2.out _).mono ?_; rintro e w2 ⟨rfl, hb2⟩; have H2 : Hid (Rp w2 q s ∧ w.grownBy w2 (some q)) := (⟨H1.out.1.kept hb2, grownBy_gr H1.out.2 hb2⟩); clear hb2)
    rw [hR.out]
    clear hR
    have c0 : w2.cell? ⟨q, 0, none⟩ = some (.int .i64 s.most) := H2.out.1.cell 0
    have c1 : w2.cell? ⟨q, 1, none⟩ = some (.int .i64 s.panics) := H2.out.1.cell 1
    have c2 : w2.cell? ⟨q, 2, none⟩ = some (.int .i64 s.stepout) := H2.out.1.cell 2
    clear K1 K2 H1 H0 mn1 mx1
    go_wp2_with fail
    rw [hQ.out]
    go_ret2
    rw [hu.out]
    exact ⟨rfl, H2.out.1, H2.out.2⟩
  go_enter Try.func19, Try.ntmps19
  refine post_hid fun Q hQ => ?_
  refine seq_hid fun R hR => ?_
  go_wp2_with fail
  rw [hR.out]
  clear hR
  refine seq_hid fun R hR => ?_
  go_wp2_with (go_at_call 32; refine (K1.out _).mono ?_; rintro e w1 ⟨rfl, hb1⟩; have H1 : Hid (Rp w1 q s ∧ w.grownBy w1 (some q)) := (⟨H0.out.1.kept hb1, grownBy_gr H0.out.2 hb1⟩); clear hb1)
  rw [hR.out]
  clear hR
  refine seq_hid fun R hR => ?_
  go_wp2_with fail
  rw [hR.out]
  clear hR
  refine seq_hid fun R hR => ?_
  go_wp2_with (go_at_call 33; refine (K2.out _).mono ?_; rintro e w2 ⟨rfl, hb2⟩; have H2 : Hid (Rp w2 q s ∧ w.grownBy w2 (some q)) := (⟨H1.out.1.kept hb2, grownBy_gr H1.out.2 hb2⟩); clear hb2)
  rw [hR.out]
  clear hR
  have c0 : w2.cell? ⟨q, 0, none⟩ = some (.int .i64 s.most) := H2.out.1.cell 0
  have c1 : w2.cell? ⟨q, 1, none⟩ = some (.int .i64 s.panics) := H2.out.1.cell 1
  have c2 : w2.cell? ⟨q, 2, none⟩ = some (.int .i64 s.stepout) := H2.out.1.cell 2
  clear K1 K2 H1 H0 mn1 mx1
  refine seq_hid fun R hR => ?_
  go_wp2_with fail
  rw [hR.out]
  clear hR
  refine seq_hid fun R hR => ?_
  go_wp2_with fail
  refine wp_region_grown (by kernel_rfl) (by kernel_rfl) ?_
  intro C hC hG
  have a2 : Hid (∀ u, C u → u.cell? ⟨q, 2, none⟩ = some (.int .i64 s.stepout)) := fun u hu => (H2.out.1.kept (hC u hu)).cell 2
  have Z1 : Hid (∀ u, C u → Calls Try.prog 34 #[.pointer (some ⟨q, 0, none⟩), .int .i64 N] u fun e w' => e = .returned (.int .i64 D) ∧ C w') := fun u hu => (rsince_any q s N u (H2.out.1.kept (hC u hu)) HP.out.2 HB.out.2.1).mono fun e w' ⟨h1, h2⟩ => ⟨by rw [h1, HZ.out.2], h2 ▸ hu⟩
  refine QW.out ?_
  repeat (first
    | (refine qa_valW (by rfl) ?_; apply Exists.intro; refine ⟨fun u hu => ?_, ?_⟩; ((have e2 := a2.out u hu); go_simp; exact rfl); try go_simp)
    | (refine qa_callW (by rfl) 34 _ _ ?_ (fun u hu => Z1.out u hu) ?_; (focus (intro u hu; go_simp; first | done | exact rfl)); try go_simp))
  refine qw_nil ?_
  intro W hu
  have HW : Hid (Rp W q s ∧ w.grownBy W (some q)) := ⟨H2.out.1.kept hu, grownBy_gr H2.out.2 hu⟩
  clear a2 Z1 hC hG hu H2 c0 c1 c2
  go_wp2_with fail
  rw [hR.out]
  clear hR
  have d0 : W.cell? ⟨q, 0, none⟩ = some (.int .i64 s.most) := HW.out.1.cell 0
  have d3 : W.cell? ⟨q, 3, none⟩ = some (.int .i64 s.st) := HW.out.1.cell 3
  have d6 : W.cell? ⟨q, 6, none⟩ = some (.int .i64 s.base) := HW.out.1.cell 6
  have d7 : W.cell? ⟨q, 7, none⟩ = some (.int .i64 s.wn) := HW.out.1.cell 7
  have g3 : W.frozen? ⟨q, 3, none⟩ = false := HW.out.1.frozen 3
  have g6 : W.frozen? ⟨q, 6, none⟩ = false := HW.out.1.frozen 6
  have g7 : W.frozen? ⟨q, 7, none⟩ = false := HW.out.1.frozen 7
  obtain ⟨b1, hb1⟩ : ∃ b1, decide (s.most < Z) = b1 := ⟨_, rfl⟩
  obtain ⟨b2, hb2⟩ : ∃ b2, decide (D < s.stepout) = b2 := ⟨_, rfl⟩
  have HBB : Hid (decide (s.most < Z) = b1 ∧ decide (D < s.stepout) = b2 ∧ ¬ s.panics < Z) := ⟨hb1, hb2, by omega⟩
  rw [hb2]
  clear hp hb2
  have hst : s.st = 0 ∨ s.st = 1 ∨ s.st = 2 ∨ s.st = 3 ∨ s.st = 4 := by have := HP.out.2.s0; have := HP.out.2.s1; omega
  rcases hst with hst | hst | hst | hst | hst
  · have HST : Hid (s.st = 0) := hst
    rw [hst] at d3
    clear hst
    cases b1
    · have hu : Hid (updS s O j N = ({ s with st := 3, base := O, wn := N }, 0, 0)) := by
        have q1 : ¬ s.panics < Z := HBB.out.2.2
        have q2 : ¬ s.most < Z := of_decide_eq_false HBB.out.1
        show _ = _
        unfold updS
        rw [HZ.out.1, HZ.out.2, HST.out, if_neg q1, if_neg q2]
        simp
      go_wp2_with fail
      rw [hQ.out]
      go_ret2
      rw [hu.out]
      exact ⟨rfl, ((HW.out.1.set (j := 3) _).set (j := 6) _).set (j := 7) _, grownBy_trans HW.out.2 (grownBy_trans (grownBy_set _ ⟨q, 3, none⟩ _) (grownBy_trans (grownBy_set _ ⟨q, 6, none⟩ _) (grownBy_set _ ⟨q, 7, none⟩ _)))⟩
    · have hu : Hid (updS s O j N = (resS s N, 2, O)) := by
        have q1 : ¬ s.panics < Z := HBB.out.2.2
        have q2 : s.most < Z := of_decide_eq_true HBB.out.1
        show _ = _
        unfold updS
        rw [HZ.out.1, HZ.out.2, HST.out, if_neg q1, if_pos q2]
        simp
      go_wp2_with (go_at_call 36; refine (rstep_any q s O N _ HW.out.1).mono ?_; rintro e w3 ⟨rfl, h3, g3⟩)
      rw [hQ.out]
      go_ret2
      rw [hu.out]
      exact ⟨rfl, h3, grownBy_trans HW.out.2 g3⟩
  · have HST : Hid (s.st = 1) := hst
    rw [hst] at d3
    clear hst
    cases b1
    · have hu : Hid (updS s O j N = (folS s O j N, 1, 0)) := by
        have q1 : ¬ s.panics < Z := HBB.out.2.2
        have q2 : ¬ s.most < Z := of_decide_eq_false HBB.out.1
        show _ = _
        unfold updS
        rw [HZ.out.1, HZ.out.2, HST.out, if_neg q1, if_neg q2]
        simp
      go_wp2_with (go_at_call 38; refine (rfollow_any q s O j N _ HW.out.1 HP.out.2 HB.out.1 HB.out.2.2.2 HB.out.2.1).mono ?_; rintro e w3 ⟨rfl, h3, g3⟩)
      rw [hQ.out]
      go_ret2
      rw [hu.out]
      exact ⟨rfl, h3, grownBy_trans HW.out.2 g3⟩
    · have hu : Hid (updS s O j N = (resS s N, 2, O)) := by
        have q1 : ¬ s.panics < Z := HBB.out.2.2
        have q2 : s.most < Z := of_decide_eq_true HBB.out.1
        show _ = _
        unfold updS
        rw [HZ.out.1, HZ.out.2, HST.out, if_neg q1, if_pos q2]
        simp
      go_wp2_with (go_at_call 36; refine (rstep_any q s O N _ HW.out.1).mono ?_; rintro e w3 ⟨rfl, h3, g3⟩)
      rw [hQ.out]
      go_ret2
      rw [hu.out]
      exact ⟨rfl, h3, grownBy_trans HW.out.2 g3⟩
  · have HST : Hid (s.st = 2) := hst
    rw [hst] at d3
    clear hst
    cases b1
    · have hu : Hid (updS s O j N = (folS (adjS s O D) O j N, 1, 0)) := by
        have q1 : ¬ s.panics < Z := HBB.out.2.2
        have q2 : ¬ s.most < Z := of_decide_eq_false HBB.out.1
        show _ = _
        unfold updS
        rw [HZ.out.1, HZ.out.2, HST.out, if_neg q1, if_neg q2]
        simp
      go_wp2_with (first
        | (go_at_call 37; refine (radjust_any q s O N _ HW.out.1 HP.out.2 HB.out.1 HB.out.2.1).mono ?_; rintro e w2 ⟨rfl, h2, g2⟩; rw [HZ.out.2] at h2)
        | (go_at_call 38; refine (rfollow_any q (adjS s O D) O j N _ h2 (HP.out.2.turn _) HB.out.1 HB.out.2.2.2 HB.out.2.1).mono ?_; rintro e w3 ⟨rfl, h3, g3⟩))
      rw [hQ.out]
      go_ret2
      rw [hu.out]
      exact ⟨rfl, h3, grownBy_trans HW.out.2 (grownBy_trans g2 g3)⟩
    · cases b2
      · have hu : Hid (updS s O j N = (resS s N, 2, O)) := by
          have q1 : ¬ s.panics < Z := HBB.out.2.2
          have q2 : s.most < Z := of_decide_eq_true HBB.out.1
          have q3 : ¬ D < s.stepout := of_decide_eq_false HBB.out.2.1
          show _ = _
          unfold updS
          rw [HZ.out.1, HZ.out.2, HST.out, if_neg q1, if_pos q2]
          simp [q3]
        go_wp2_with (go_at_call 36; refine (rstep_any q s O N _ HW.out.1).mono ?_; rintro e w3 ⟨rfl, h3, g3⟩)
        rw [hQ.out]
        go_ret2
        rw [hu.out]
        exact ⟨rfl, h3, grownBy_trans HW.out.2 g3⟩
      · have hu : Hid (updS s O j N = (s, 0, 0)) := by
          have q1 : ¬ s.panics < Z := HBB.out.2.2
          have q2 : s.most < Z := of_decide_eq_true HBB.out.1
          have q3 : D < s.stepout := of_decide_eq_true HBB.out.2.1
          show _ = _
          unfold updS
          rw [HZ.out.1, HZ.out.2, HST.out, if_neg q1, if_pos q2]
          simp [q3]
        go_wp2_with fail
        rw [hQ.out]
        go_ret2
        rw [hu.out]
        exact ⟨rfl, HW.out.1, HW.out.2⟩
  · have HST : Hid (s.st = 3) := hst
    rw [hst] at d3
    clear hst
    cases b1
    · cases b2
      · have hu : Hid (updS s O j N = (folS (meaS s O D) O j N, 1, 0)) := by
          have q1 : ¬ s.panics < Z := HBB.out.2.2
          have q2 : ¬ s.most < Z := of_decide_eq_false HBB.out.1
          have q3 : ¬ D < s.stepout := of_decide_eq_false HBB.out.2.1
          show _ = _
          unfold updS
          rw [HZ.out.1, HZ.out.2, HST.out, if_neg q1, if_neg q2]
          simp [q3]
        go_wp2_with (first
          | (go_at_call 35; refine (rmeasure_any q s O N _ HW.out.1 HP.out.2 HB.out.1 HB.out.2.1).mono ?_; rintro e w2 ⟨rfl, h2, g2⟩; rw [HZ.out.2] at h2; have d2 : w2.cell? ⟨q, 3, none⟩ = some (.int .i64 3) := (by have := h2.cell 3; rw [this]; exact congrArg (fun z => some (Value.int .i64 z)) HST.out))
          | (go_at_call 38; refine (rfollow_any q (meaS s O D) O j N _ h2 (HP.out.2.turn _) HB.out.1 HB.out.2.2.2 HB.out.2.1).mono ?_; rintro e w3 ⟨rfl, h3, g3⟩))
        rw [hQ.out]
        go_ret2
        rw [hu.out]
        exact ⟨rfl, h3, grownBy_trans HW.out.2 (grownBy_trans g2 g3)⟩
      · have hu : Hid (updS s O j N = (s, 0, 0)) := by
          have q1 : ¬ s.panics < Z := HBB.out.2.2
          have q2 : ¬ s.most < Z := of_decide_eq_false HBB.out.1
          have q3 : D < s.stepout := of_decide_eq_true HBB.out.2.1
          show _ = _
          unfold updS
          rw [HZ.out.1, HZ.out.2, HST.out, if_neg q1, if_neg q2]
          simp [q3]
        go_wp2_with fail
        rw [hQ.out]
        go_ret2
        rw [hu.out]
        exact ⟨rfl, HW.out.1, HW.out.2⟩
    · cases b2
      · have hu : Hid (updS s O j N = (resS (meaS s O D) N, 2, O)) := by
          have q1 : ¬ s.panics < Z := HBB.out.2.2
          have q2 : s.most < Z := of_decide_eq_true HBB.out.1
          have q3 : ¬ D < s.stepout := of_decide_eq_false HBB.out.2.1
          show _ = _
          unfold updS
          rw [HZ.out.1, HZ.out.2, HST.out, if_neg q1, if_pos q2]
          simp [q3]
        go_wp2_with (first
          | (go_at_call 35; refine (rmeasure_any q s O N _ HW.out.1 HP.out.2 HB.out.1 HB.out.2.1).mono ?_; rintro e w2 ⟨rfl, h2, g2⟩; rw [HZ.out.2] at h2; have d2 : w2.cell? ⟨q, 3, none⟩ = some (.int .i64 3) := (by have := h2.cell 3; rw [this]; exact congrArg (fun z => some (Value.int .i64 z)) HST.out))
          | (go_at_call 36; refine (rstep_any q (meaS s O D) O N _ h2).mono ?_; rintro e w3 ⟨rfl, h3, g3⟩))
        rw [hQ.out]
        go_ret2
        rw [hu.out]
        exact ⟨rfl, h3, grownBy_trans HW.out.2 (grownBy_trans g2 g3)⟩
      · have hu : Hid (updS s O j N = (s, 0, 0)) := by
          have q1 : ¬ s.panics < Z := HBB.out.2.2
          have q2 : s.most < Z := of_decide_eq_true HBB.out.1
          have q3 : D < s.stepout := of_decide_eq_true HBB.out.2.1
          show _ = _
          unfold updS
          rw [HZ.out.1, HZ.out.2, HST.out, if_neg q1, if_pos q2]
          simp [q3]
        go_wp2_with fail
        rw [hQ.out]
        go_ret2
        rw [hu.out]
        exact ⟨rfl, HW.out.1, HW.out.2⟩
  · have HST : Hid (s.st = 4) := hst
    rw [hst] at d3
    clear hst
    cases b1
    · have hu : Hid (updS s O j N = (folS (adjS s O D) O j N, 1, 0)) := by
        have q1 : ¬ s.panics < Z := HBB.out.2.2
        have q2 : ¬ s.most < Z := of_decide_eq_false HBB.out.1
        show _ = _
        unfold updS
        rw [HZ.out.1, HZ.out.2, HST.out, if_neg q1, if_neg q2]
        simp
      go_wp2_with (first
        | (go_at_call 37; refine (radjust_any q s O N _ HW.out.1 HP.out.2 HB.out.1 HB.out.2.1).mono ?_; rintro e w2 ⟨rfl, h2, g2⟩; rw [HZ.out.2] at h2)
        | (go_at_call 38; refine (rfollow_any q (adjS s O D) O j N _ h2 (HP.out.2.turn _) HB.out.1 HB.out.2.2.2 HB.out.2.1).mono ?_; rintro e w3 ⟨rfl, h3, g3⟩))
      rw [hQ.out]
      go_ret2
      rw [hu.out]
      exact ⟨rfl, h3, grownBy_trans HW.out.2 (grownBy_trans g2 g3)⟩
    · have hu : Hid (updS s O j N = ({ s with st := 2, wn := N }, 0, 0)) := by
        have q1 : ¬ s.panics < Z := HBB.out.2.2
        have q2 : s.most < Z := of_decide_eq_true HBB.out.1
        show _ = _
        unfold updS
        rw [HZ.out.1, HZ.out.2, HST.out, if_neg q1, if_pos q2]
        simp
      go_wp2_with fail
      rw [hQ.out]
      go_ret2
      rw [hu.out]
      exact ⟨rfl, (HW.out.1.set (j := 3) _).set (j := 7) _, grownBy_trans HW.out.2 (grownBy_trans (grownBy_set _ ⟨q, 3, none⟩ _) (grownBy_set _ ⟨q, 7, none⟩ _))⟩
end Go.Proofs.Ytbagfnafkpbanaa
