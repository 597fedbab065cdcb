/- The program's Update. -/
import Derived.Test.YtbagfnafkpbanaaLpC
import Derived.ScopeJumps
namespace Go.Proofs.Ytbagfnafkpbanaa
open Go Go.RowKit Go.Sort
set_option linter.unusedVariables false
/-- by a goto to some label: what holds there -/
def exJ (J : Nat → Act → World → Prop) (Q : Exit → Act → World → Prop) : Exit → Act → World → Prop
  | .goto l, a, w => J l a w
  | e, a, w => Q e a w
section
variable {P : Program} {a : Act} {w : World} {Q : Exit → Act → World → Prop}
theorem wp_scope_gotos {c : Code} (J : Nat → Act → World → Prop) (μ : Nat → Act → World → Nat)
    (first : c.wp P (exJ J Q) a w)
    (pass : ∀ l a w M, J l a w → μ l a w = M → ∃ rest, findLabel c l = some rest ∧ rest.wp P (exJ (fun l' a' w' => J l' a' w' ∧ μ l' a' w' < M) Q) a w) : (Code.scope c).wp P Q a w := by
  intro b k cs
  have key : ∀ n l a w, μ l a w = n → J l a w → ∃ rest, findLabel c l = some rest ∧ ∃ e a' w', Q e a' w' ∧ Arrives P (lone (b.at a (.code rest :: .inScope c :: k)) cs w) b k cs e a' w' := by
    intro n
    induction n using Nat.strongRecOn with
    | _ n ih =>
      intro l a w hn hJ
      obtain ⟨rest, hf, hp⟩ := pass l a w _ hJ rfl
      refine ⟨rest, hf, ?_⟩
      obtain ⟨e, a₁, w₁, hq, harr⟩ := hp b (.inScope c :: k) cs
      cases e with
      | normal => exact ⟨.normal, a₁, w₁, hq, Steps.trans harr (.one step_inScope)⟩
      | exit id => exact ⟨.exit id, a₁, w₁, hq, fun k' hk => harr k' (by simp [exitTo, hk])⟩
      | goto l' =>
        obtain ⟨hJ', hlt⟩ := hq
        obtain ⟨rest', hf', e₂, a₂, w₂, hq₂, harr₂⟩ := ih _ (by omega) l' a₁ w₁ rfl hJ'
        have hg : gotoIn l' (.inScope c :: k) = some (.code rest' :: .inScope c :: k) := by simp [gotoIn, hf']
        exact ⟨e₂, a₂, w₂, hq₂, .of_steps (harr _ hg) harr₂⟩
      | ret => exact ⟨_, a₁, w₁, hq, harr⟩
      | panic ch => exact ⟨_, a₁, w₁, hq, harr⟩
      | outgrown => exact ⟨_, a₁, w₁, hq, harr⟩
  obtain ⟨e, a₁, w₁, hq, harr⟩ := first b (.inScope c :: k) cs
  cases e with
  | normal => exact ⟨.normal, a₁, w₁, hq, .head step_scope (Steps.trans harr (.one step_inScope))⟩
  | exit id => exact ⟨.exit id, a₁, w₁, hq, fun k' hk => .head step_scope (harr k' (by simp [exitTo, hk]))⟩
  | goto l' =>
    obtain ⟨rest', hf', e₂, a₂, w₂, hq₂, harr₂⟩ := key _ l' a₁ w₁ rfl hq
    have hg : gotoIn l' (.inScope c :: k) = some (.code rest' :: .inScope c :: k) := by simp [gotoIn, hf']
    exact ⟨e₂, a₂, w₂, hq₂, .of_steps (.head step_scope (harr _ hg)) harr₂⟩
  | ret => exact ⟨_, a₁, w₁, hq, .of_steps (.one step_scope) harr⟩
  | panic ch => exact ⟨_, a₁, w₁, hq, .of_steps (.one step_scope) harr⟩
  | outgrown => exact ⟨_, a₁, w₁, hq, .of_steps (.one step_scope) harr⟩
/-- one goto at most -/
theorem wp_scope_once {c : Code} (h : c.wp P (exJ (fun l a w => ∃ rest, findLabel c l = some rest ∧ rest.wp P (Exit.noGoto Q) a w) Q) a w) : (Code.scope c).wp P Q a w :=
  wp_scope_gotos (fun l a w => ∃ rest, findLabel c l = some rest ∧ rest.wp P (Exit.noGoto Q) a w) (fun _ _ _ => 0) h (fun l a w M ⟨rest, hf, hr⟩ _ => ⟨rest, hf, wp_mono hr (fun e a w h => by cases e <;> first | exact h | exact h.elim)⟩)
end
set_option maxHeartbeats 4000000 in
theorem update_any (p : Nat) (s : Lp) (o j n : Int) (w : World) (h : Po w p s) (hs : OkL s) (ho : -9223372036854775808 ≤ o ∧ o ≤ 9223372036854775807) (hj : -9223372036854775808 ≤ j ∧ j ≤ 9223372036854775807) : Calls Try.prog 14 #[.pointer (some ⟨p, 0, none⟩), .int .i64 o, .int .i64 j, .int .i64 n] w fun e w' => e = .returned (.tuple #[.int .i64 (upd s o j n).2.1, .int .i64 (upd s o j n).2.2]) ∧ Po w' p (upd s o j n).1 ∧ w.grownBy w' (some p) := by
  obtain ⟨O, hO⟩ : ∃ O, sv o = O := ⟨_, rfl⟩
  obtain ⟨N, hN⟩ : ∃ N, ck n = N := ⟨_, rfl⟩
  have bO := sv_bd o
  rw [hO] at bO
  have bN := ck_bd n
  rw [hN] at bN
  have HU : Hid (upd s o j n = updS s O j N) := by show _ = _; unfold upd; rw [hO, hN]
  rw [HU.out]
  obtain ⟨Z, hZ⟩ : ∃ Z, szS O = Z := ⟨_, rfl⟩
  obtain ⟨D, hD⟩ : ∃ D, sinS s N = D := ⟨_, rfl⟩
  have bD : 0 ≤ D ∧ D ≤ 1073741824 := by have := hs.w0; rw [← hD]; unfold sinS; omega
  obtain ⟨V, hV⟩ : ∃ V, N - s.wn = V := ⟨_, rfl⟩
  obtain ⟨v1, v2⟩ := wrapS hV (by have := hs.w0; have := hs.w1; omega) (by have := hs.w0; have := hs.w1; omega)
  obtain ⟨n1, hn1⟩ : ∃ n1, max n 0 = n1 := ⟨_, rfl⟩
  have HP : Hid (Po w p s ∧ OkL s) := ⟨h, hs⟩
  have HB : Hid ((-4611686018427387904 ≤ O ∧ O ≤ 4611686018427387904) ∧ (0 ≤ N ∧ N ≤ 1073741824) ∧ (0 ≤ D ∧ D ≤ 1073741824) ∧ (-9223372036854775808 ≤ j ∧ j ≤ 9223372036854775807)) := ⟨bO, bN, bD, hj⟩
  have HZ : Hid (szS O = Z ∧ sinS s N = D) := ⟨hZ, hD⟩
  have K : Hid ((∀ u, Calls Try.prog 25 #[.int .i64 o, .int .i64 0] u fun e w' => e = .returned (.int .i64 O) ∧ w' = u) ∧ (∀ u, Calls Try.prog 26 #[.int .i64 O] u fun e w' => e = .returned (.int .i64 Z) ∧ w' = u)) :=
    ⟨fun u => by rw [← hO]; have := add_any o 0 u (by omega) (by omega) (by omega) (by omega); rw [Int.add_zero] at this; exact this, fun u => by rw [← hZ]; exact abs_any _ _ (by omega) (by omega)⟩
  have mx1 : ∀ u, (Builtin.max_ #[3, 3] 3 #[.int .i64 n, .int .i64 0]).run Try.prog u = .ok (.int .i64 n1) u := fun u => by rw [run_mx, hn1]
  have mn1 : ∀ u, (Builtin.min_ #[3, 3] 3 #[.int .i64 n1, .int .i64 1073741824]).run Try.prog u = .ok (.int .i64 N) u := fun u => by
    rw [run_mn, ← hN, ← hn1]; unfold ck; congr 2; omega
  have mx2 : ∀ u, (Builtin.max_ #[3, 3] 3 #[.int .i64 V, .int .i64 0]).run Try.prog u = .ok (.int .i64 D) u := fun u => by
    rw [run_mx, ← hD, ← hV]; rfl
  have c0 : w.cell? ⟨p, 0, none⟩ = some (.int .i64 s.most) := h.cell 0
  have c1 : w.cell? ⟨p, 1, none⟩ = some (.int .i64 s.panics) := h.cell 1
  have c2 : w.cell? ⟨p, 2, none⟩ = some (.int .i64 s.stepout) := h.cell 2
  have c3 : w.cell? ⟨p, 3, none⟩ = some (.int .i64 s.st) := h.cell 3
  have c7 : w.cell? ⟨p, 7, none⟩ = some (.int .i64 s.wn) := h.cell 7
  clear h hs hO hN hZ hD hV hn1 bO bN bD ho hj
  by_cases hp : s.panics < Z
  · have hu : Hid (updS s O j N = (s, 3, 0)) := by show _ = _; unfold updS; rw [HZ.out.1, if_pos hp]
    go_enter Try.func14, Try.ntmps14
    refine post_hid fun Q hQ => ?_
    go_wp2_with fail
    refine wp_scope_once ?_
    refine post_hid fun Q2 hQ2 => ?_
    go_wp2_with (go_at_call 25; refine (K.out.1 _).mono ?_; rintro e w' ⟨rfl, hw⟩; rw [hw]; clear hw)
    go_quiet ((go_at_call 26; exact Calls.quiet_of_same (K.out.2 _)))
    go_wp2_with fail
    rw [hQ2.out]
    show Q _ _ _
    rw [hQ.out]
    go_ret2
    rw [hu.out]
    exact ⟨rfl, HP.out.1.drewN _, grownBy_drewN _ _ _⟩
  go_enter Try.func14, Try.ntmps14
  refine post_hid fun Q hQ => ?_
  go_wp2_with fail
  refine wp_scope_once ?_
  refine post_hid fun Q2 hQ2 => ?_
  refine seq_hid fun R hR => ?_
  go_wp2_with (go_at_call 25; refine (K.out.1 _).mono ?_; rintro e w' ⟨rfl, hw⟩; rw [hw]; clear hw)
  rw [hR.out]
  clear hR
  refine seq_hid fun R hR => ?_
  go_wp2_with fail
  go_quiet ((go_at_call 26; exact Calls.quiet_of_same (K.out.2 _)))
  go_wp2_with fail
  rw [hR.out]
  clear hR
  refine seq_hid fun R hR => ?_
  go_wp2_with fail
  rw [hR.out]
  clear hR
  refine seq_hid fun R hR => ?_
  go_wp2_with fail
  go_quiet (fail)
  go_wp2_with fail
  rw [hR.out]
  clear hR
  refine world_hid fun W hW => ?_
  have HW : Hid (Po W p s ∧ w.grownBy W (some p)) := by
    rw [hW.out]
    refine ⟨?_, ?_⟩
    · first | exact (HP.out.1.drewN _).drewN _ | exact HP.out.1.drewN _
    · first | exact grownBy_trans (grownBy_drewN _ _ _) (grownBy_drewN _ _ _) | exact grownBy_drewN _ _ _
  clear hW
  have d3 : W.cell? ⟨p, 3, none⟩ = some (.int .i64 s.st) := HW.out.1.cell 3
  have d7 : W.cell? ⟨p, 7, none⟩ = some (.int .i64 s.wn) := HW.out.1.cell 7
  have g3 : W.frozen? ⟨p, 3, none⟩ = false := HW.out.1.frozen 3
  have g7 : W.frozen? ⟨p, 7, none⟩ = false := HW.out.1.frozen 7
  obtain ⟨b1, hb1⟩ : ∃ b1, decide (s.most < Z) = b1 := ⟨_, rfl⟩
  obtain ⟨b2, hb2⟩ : ∃ b2, decide (D < s.stepout) = b2 := ⟨_, rfl⟩
  rw [hb1, hb2]
  have HBB : Hid (decide (s.most < Z) = b1 ∧ decide (D < s.stepout) = b2 ∧ ¬ s.panics < Z) := ⟨hb1, hb2, Int.not_lt.2 hp⟩
  clear hb1 hb2 hp mx1 mx2 mn1 c0 c1 c2 c3 c7 v1 v2
  have hst : s.st = 0 ∨ s.st = 1 ∨ s.st = 2 ∨ s.st = 3 ∨ s.st = 4 := by have := HP.out.2.s0; have := HP.out.2.s1; omega
  rcases hst with hst | hst | hst | hst | hst
  · have HST : Hid (s.st = 0) := hst
    rw [hst] at d3
    clear hst
    cases b1
    · have hu : Hid (updS s O j N = ({ s with st := 3, base := O, wn := N }, 0, 0)) := by
        have q1 : ¬ s.panics < Z := HBB.out.2.2
        have q2 : ¬ s.most < Z := of_decide_eq_false HBB.out.1
        show _ = _
        unfold updS
        rw [HZ.out.1, HZ.out.2, HST.out, if_neg q1, if_neg q2]
        simp
      go_wp2_with fail
      have h1 : Po (W.setCell ⟨p, 3, none⟩ (.int .i64 3)) p { s with st := 3 } := HW.out.1.set (j := 3) _
      refine (take_any p _ O N _ h1).mono ?_
      rintro e w3 ⟨rfl, h3, g3⟩
      go_wp2_with fail
      refine wp_goto ?_
      show Q2 (.goto 1) _ _
      rw [hQ2.out]
      refine ⟨_, rfl, ?_⟩
      refine post_hid fun Q3 hQ3 => ?_
      go_wp2_with fail
      rw [hQ3.out]
      show Q _ _ _
      rw [hQ.out]
      go_ret2
      rw [hu.out]
      exact ⟨rfl, h3, grownBy_trans HW.out.2 (grownBy_trans (grownBy_set _ ⟨p, 3, none⟩ _) g3)⟩
    · have hu : Hid (updS s O j N = (resS s N, 2, O)) := by
        have q1 : ¬ s.panics < Z := HBB.out.2.2
        have q2 : s.most < Z := of_decide_eq_true HBB.out.1
        show _ = _
        unfold updS
        rw [HZ.out.1, HZ.out.2, HST.out, if_neg q1, if_pos q2]
        simp
      go_wp2_with fail
      refine wp_goto ?_
      show Q2 (.goto 0) _ _
      rw [hQ2.out]
      refine ⟨_, rfl, ?_⟩
      refine post_hid fun Q3 hQ3 => ?_
      go_wp2_with (go_at_call 31; refine (restart_any p s N _ HW.out.1).mono ?_; rintro e w3 ⟨rfl, h3, g3⟩)
      rw [hQ3.out]
      show Q _ _ _
      rw [hQ.out]
      go_ret2
      rw [hu.out]
      exact ⟨rfl, h3, grownBy_trans HW.out.2 g3⟩
  · have HST : Hid (s.st = 1) := hst
    rw [hst] at d3
    clear hst
    cases b1
    · have hu : Hid (updS s O j N = (folS s O j N, 1, 0)) := by
        have q1 : ¬ s.panics < Z := HBB.out.2.2
        have q2 : ¬ s.most < Z := of_decide_eq_false HBB.out.1
        show _ = _
        unfold updS
        rw [HZ.out.1, HZ.out.2, HST.out, if_neg q1, if_neg q2]
        simp
      go_wp2_with fail
      refine wp_goto ?_
      show Q2 (.goto 2) _ _
      rw [hQ2.out]
      refine ⟨_, rfl, ?_⟩
      refine post_hid fun Q3 hQ3 => ?_
      go_wp2_with (go_at_call 30; refine (follow_any p s O j N _ HW.out.1 HP.out.2 HB.out.1 HB.out.2.2.2 HB.out.2.1).mono ?_; rintro e w3 ⟨rfl, h3, g3⟩)
      rw [hQ3.out]
      show Q _ _ _
      rw [hQ.out]
      go_ret2
      rw [hu.out]
      exact ⟨rfl, h3, grownBy_trans HW.out.2 g3⟩
    · have hu : Hid (updS s O j N = (resS s N, 2, O)) := by
        have q1 : ¬ s.panics < Z := HBB.out.2.2
        have q2 : s.most < Z := of_decide_eq_true HBB.out.1
        show _ = _
        unfold updS
        rw [HZ.out.1, HZ.out.2, HST.out, if_neg q1, if_pos q2]
        simp
      go_wp2_with fail
      refine wp_goto ?_
      show Q2 (.goto 0) _ _
      rw [hQ2.out]
      refine ⟨_, rfl, ?_⟩
      refine post_hid fun Q3 hQ3 => ?_
      go_wp2_with (go_at_call 31; refine (restart_any p s N _ HW.out.1).mono ?_; rintro e w3 ⟨rfl, h3, g3⟩)
      rw [hQ3.out]
      show Q _ _ _
      rw [hQ.out]
      go_ret2
      rw [hu.out]
      exact ⟨rfl, h3, grownBy_trans HW.out.2 g3⟩
  · have HST : Hid (s.st = 2) := hst
    rw [hst] at d3
    clear hst
    cases b1
    · have hu : Hid (updS s O j N = (folS (adjS s O D) O j N, 1, 0)) := by
        have q1 : ¬ s.panics < Z := HBB.out.2.2
        have q2 : ¬ s.most < Z := of_decide_eq_false HBB.out.1
        show _ = _
        unfold updS
        rw [HZ.out.1, HZ.out.2, HST.out, if_neg q1, if_neg q2]
        simp
      go_wp2_with fail
      refine wp_goto ?_
      show Q2 (.goto 3) _ _
      rw [hQ2.out]
      refine ⟨_, rfl, ?_⟩
      refine post_hid fun Q3 hQ3 => ?_
      go_wp2_with (go_at_call 29; refine (adjust_any p s O D _ HW.out.1 HP.out.2 HB.out.1 HB.out.2.2.1).mono ?_; rintro e w2 ⟨rfl, h2, g2⟩)
      refine wp_label ?_
      go_wp2_with (go_at_call 30; refine (follow_any p (adjS s O D) O j N _ h2 (HP.out.2.turn _) HB.out.1 HB.out.2.2.2 HB.out.2.1).mono ?_; rintro e w3 ⟨rfl, h3, g3⟩)
      rw [hQ3.out]
      show Q _ _ _
      rw [hQ.out]
      go_ret2
      rw [hu.out]
      exact ⟨rfl, h3, grownBy_trans HW.out.2 (grownBy_trans g2 g3)⟩
    · cases b2
      · have hu : Hid (updS s O j N = (resS s N, 2, O)) := by
          have q1 : ¬ s.panics < Z := HBB.out.2.2
          have q2 : s.most < Z := of_decide_eq_true HBB.out.1
          have q3 : ¬ D < s.stepout := of_decide_eq_false HBB.out.2.1
          show _ = _
          unfold updS
          rw [HZ.out.1, HZ.out.2, HST.out, if_neg q1, if_pos q2]
          simp [q3]
        go_wp2_with fail
        refine wp_goto ?_
        show Q2 (.goto 0) _ _
        rw [hQ2.out]
        refine ⟨_, rfl, ?_⟩
        refine post_hid fun Q3 hQ3 => ?_
        go_wp2_with (go_at_call 31; refine (restart_any p s N _ HW.out.1).mono ?_; rintro e w3 ⟨rfl, h3, g3⟩)
        rw [hQ3.out]
        show Q _ _ _
        rw [hQ.out]
        go_ret2
        rw [hu.out]
        exact ⟨rfl, h3, grownBy_trans HW.out.2 g3⟩
      · have hu : Hid (updS s O j N = (s, 0, 0)) := by
          have q1 : ¬ s.panics < Z := HBB.out.2.2
          have q2 : s.most < Z := of_decide_eq_true HBB.out.1
          have q3 : D < s.stepout := of_decide_eq_true HBB.out.2.1
          show _ = _
          unfold updS
          rw [HZ.out.1, HZ.out.2, HST.out, if_neg q1, if_pos q2]
          simp [q3]
        go_wp2_with fail
        refine wp_goto ?_
        show Q2 (.goto 1) _ _
        rw [hQ2.out]
        refine ⟨_, rfl, ?_⟩
        refine post_hid fun Q3 hQ3 => ?_
        go_wp2_with fail
        rw [hQ3.out]
        show Q _ _ _
        rw [hQ.out]
        go_ret2
        rw [hu.out]
        exact ⟨rfl, HW.out.1, HW.out.2⟩
  · have HST : Hid (s.st = 3) := hst
    rw [hst] at d3
    clear hst
    cases b1
    · cases b2
      · have hu : Hid (updS s O j N = (folS (meaS s O D) O j N, 1, 0)) := by
          have q1 : ¬ s.panics < Z := HBB.out.2.2
          have q2 : ¬ s.most < Z := of_decide_eq_false HBB.out.1
          have q3 : ¬ D < s.stepout := of_decide_eq_false HBB.out.2.1
          show _ = _
          unfold updS
          rw [HZ.out.1, HZ.out.2, HST.out, if_neg q1, if_neg q2]
          simp [q3]
        go_wp2_with fail
        refine (measure_any p s O D _ HW.out.1 HP.out.2 HB.out.1 HB.out.2.2.1).mono ?_
        rintro e w2 ⟨rfl, h2, g2⟩
        go_wp2_with fail
        refine wp_goto ?_
        show Q2 (.goto 2) _ _
        rw [hQ2.out]
        refine ⟨_, rfl, ?_⟩
        refine post_hid fun Q3 hQ3 => ?_
        go_wp2_with (go_at_call 30; refine (follow_any p (meaS s O D) O j N _ h2 (HP.out.2.turn _) HB.out.1 HB.out.2.2.2 HB.out.2.1).mono ?_; rintro e w3 ⟨rfl, h3, g3⟩)
        rw [hQ3.out]
        show Q _ _ _
        rw [hQ.out]
        go_ret2
        rw [hu.out]
        exact ⟨rfl, h3, grownBy_trans HW.out.2 (grownBy_trans g2 g3)⟩
      · have hu : Hid (updS s O j N = (s, 0, 0)) := by
          have q1 : ¬ s.panics < Z := HBB.out.2.2
          have q2 : ¬ s.most < Z := of_decide_eq_false HBB.out.1
          have q3 : D < s.stepout := of_decide_eq_true HBB.out.2.1
          show _ = _
          unfold updS
          rw [HZ.out.1, HZ.out.2, HST.out, if_neg q1, if_neg q2]
          simp [q3]
        go_wp2_with fail
        refine wp_goto ?_
        show Q2 (.goto 1) _ _
        rw [hQ2.out]
        refine ⟨_, rfl, ?_⟩
        refine post_hid fun Q3 hQ3 => ?_
        go_wp2_with fail
        rw [hQ3.out]
        show Q _ _ _
        rw [hQ.out]
        go_ret2
        rw [hu.out]
        exact ⟨rfl, HW.out.1, HW.out.2⟩
    · cases b2
      · have hu : Hid (updS s O j N = (resS (meaS s O D) N, 2, O)) := by
          have q1 : ¬ s.panics < Z := HBB.out.2.2
          have q2 : s.most < Z := of_decide_eq_true HBB.out.1
          have q3 : ¬ D < s.stepout := of_decide_eq_false HBB.out.2.1
          show _ = _
          unfold updS
          rw [HZ.out.1, HZ.out.2, HST.out, if_neg q1, if_pos q2]
          simp [q3]
        go_wp2_with fail
        refine (measure_any p s O D _ HW.out.1 HP.out.2 HB.out.1 HB.out.2.2.1).mono ?_
        rintro e w2 ⟨rfl, h2, g2⟩
        go_wp2_with fail
        refine wp_goto ?_
        show Q2 (.goto 0) _ _
        rw [hQ2.out]
        refine ⟨_, rfl, ?_⟩
        refine post_hid fun Q3 hQ3 => ?_
        go_wp2_with (go_at_call 31; refine (restart_any p (meaS s O D) N _ h2).mono ?_; rintro e w3 ⟨rfl, h3, g3⟩)
        rw [hQ3.out]
        show Q _ _ _
        rw [hQ.out]
        go_ret2
        rw [hu.out]
        exact ⟨rfl, h3, grownBy_trans HW.out.2 (grownBy_trans g2 g3)⟩
      · have hu : Hid (updS s O j N = (s, 0, 0)) := by
          have q1 : ¬ s.panics < Z := HBB.out.2.2
          have q2 : s.most < Z := of_decide_eq_true HBB.out.1
          have q3 : D < s.stepout := of_decide_eq_true HBB.out.2.1
          show _ = _
          unfold updS
          rw [HZ.out.1, HZ.out.2, HST.out, if_neg q1, if_pos q2]
          simp [q3]
        go_wp2_with fail
        refine wp_goto ?_
        show Q2 (.goto 1) _ _
        rw [hQ2.out]
        refine ⟨_, rfl, ?_⟩
        refine post_hid fun Q3 hQ3 => ?_
        go_wp2_with fail
        rw [hQ3.out]
        show Q _ _ _
        rw [hQ.out]
        go_ret2
        rw [hu.out]
        exact ⟨rfl, HW.out.1, HW.out.2⟩
  · have HST : Hid (s.st = 4) := hst
    rw [hst] at d3
    clear hst
    cases b1
    · have hu : Hid (updS s O j N = (folS (adjS s O D) O j N, 1, 0)) := by
        have q1 : ¬ s.panics < Z := HBB.out.2.2
        have q2 : ¬ s.most < Z := of_decide_eq_false HBB.out.1
        show _ = _
        unfold updS
        rw [HZ.out.1, HZ.out.2, HST.out, if_neg q1, if_neg q2]
        simp
      go_wp2_with fail
      refine wp_goto ?_
      show Q2 (.goto 3) _ _
      rw [hQ2.out]
      refine ⟨_, rfl, ?_⟩
      refine post_hid fun Q3 hQ3 => ?_
      go_wp2_with (go_at_call 29; refine (adjust_any p s O D _ HW.out.1 HP.out.2 HB.out.1 HB.out.2.2.1).mono ?_; rintro e w2 ⟨rfl, h2, g2⟩)
      refine wp_label ?_
      go_wp2_with (go_at_call 30; refine (follow_any p (adjS s O D) O j N _ h2 (HP.out.2.turn _) HB.out.1 HB.out.2.2.2 HB.out.2.1).mono ?_; rintro e w3 ⟨rfl, h3, g3⟩)
      rw [hQ3.out]
      show Q _ _ _
      rw [hQ.out]
      go_ret2
      rw [hu.out]
      exact ⟨rfl, h3, grownBy_trans HW.out.2 (grownBy_trans g2 g3)⟩
    · have hu : Hid (updS s O j N = ({ s with st := 2, wn := N }, 0, 0)) := by
        have q1 : ¬ s.panics < Z := HBB.out.2.2
        have q2 : s.most < Z := of_decide_eq_true HBB.out.1
        show _ = _
        unfold updS
        rw [HZ.out.1, HZ.out.2, HST.out, if_neg q1, if_pos q2]
        simp
      go_wp2_with fail
      refine wp_goto ?_
      show Q2 (.goto 1) _ _
      rw [hQ2.out]
      refine ⟨_, rfl, ?_⟩
      refine post_hid fun Q3 hQ3 => ?_
      go_wp2_with fail
      rw [hQ3.out]
      show Q _ _ _
      rw [hQ.out]
      go_ret2
      rw [hu.out]
      exact ⟨rfl, (HW.out.1.set (j := 3) _).set (j := 7) _, grownBy_trans HW.out.2 (grownBy_trans (grownBy_set _ ⟨p, 3, none⟩ _) (grownBy_set _ ⟨p, 7, none⟩ _))⟩
end Go.Proofs.Ytbagfnafkpbanaa
