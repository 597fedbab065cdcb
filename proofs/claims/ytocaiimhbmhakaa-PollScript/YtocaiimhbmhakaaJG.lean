/- The reference: Sent. -/
import Derived.Test.YtocaiimhbmhakaaJE
namespace Go.Proofs.Ytocaiimhbmhakaa
open Go Go.RowKit Go.Sort
set_option maxHeartbeats 4000000 in
theorem rsent_any (q : Nat) (a : As) (s : Pl) (now sys : Int) (w : World) (h : Rp w q a s) (hs : OkL s) : Calls Try.prog 27 #[.pointer (some ⟨q, 0, none⟩), .int .i64 now, .int .i64 sys] w fun e w' => e = .returned (.tuple #[]) ∧ Rp w' q a (sentS s now sys) ∧ w.grownBy w' (some q) := by
  have H0 : Hid (Rp w q a s ∧ w.grownBy w (some q)) := ⟨h, rfl, rfl, rfl, Nat.le_refl _, fun _ _ _ => rfl⟩
  have HS : Hid (OkL s) := hs
  obtain ⟨C, hC⟩ : ∃ C, ck now = C := ⟨_, rfl⟩
  have HC : Hid (ck now = C ∧ 0 ≤ C ∧ C ≤ 1073741824) := ⟨hC, by rw [← hC]; exact ck_bd now⟩
  have HCk : Hid (∀ u, Calls Try.prog 22 #[.int .i64 now] u fun e w' => e = .returned (.int .i64 C) ∧ w' = u) := fun u => by rw [← hC]; exact clock_any now u
  have kC : wrap64 (C + 2) = C + 2 := w64 _ (by have := HC.out.2; omega) (by have := HC.out.2; omega)
  clear hC h hs
  have c3 : w.cell? ⟨q, 3, none⟩ = some (.int .i64 s.least) := H0.out.1.cell 3
  have c4 : w.cell? ⟨q, 4, none⟩ = some (.int .i64 s.most) := H0.out.1.cell 4
  have c12 : w.cell? ⟨q, 12, none⟩ = some (.int .i64 s.exp) := H0.out.1.cell 12
  have c13 : w.cell? ⟨q, 13, none⟩ = some (.int .i64 s.reach) := H0.out.1.cell 13
  have c14 : w.cell? ⟨q, 14, none⟩ = some (.int .i64 s.gone) := H0.out.1.cell 14
  have c16 : w.cell? ⟨q, 16, none⟩ = some (.int .i64 s.left) := H0.out.1.cell 16
  have c15 : w.cell? ⟨q, 15, none⟩ = some (.int .i64 s.next) := H0.out.1.cell 15
  have f12 : w.frozen? ⟨q, 12, none⟩ = false := H0.out.1.frozen 12
  have f13 : w.frozen? ⟨q, 13, none⟩ = false := H0.out.1.frozen 13
  have f14 : w.frozen? ⟨q, 14, none⟩ = false := H0.out.1.frozen 14
  have f15 : w.frozen? ⟨q, 15, none⟩ = false := H0.out.1.frozen 15
  have f16 : w.frozen? ⟨q, 16, none⟩ = false := H0.out.1.frozen 16
  go_enter Try.func27, Try.ntmps27
  refine post_hid fun Q hQ => ?_
  refine seq_hid fun R hR => ?_
  go_wp2_with (go_at_call 22; refine (HCk.out _).mono ?_; rintro e wq ⟨rfl, hwq⟩; rw [hwq]; clear hwq)
  rw [hR.out]
  clear hR
  by_cases hl : 0 < s.left
  · have k1 : wrap64 (s.left - 1) = s.left - 1 := w64 _ (by have := HS.out.l0; omega) (by have := HS.out.l1; omega)
    have b0 : 0 ≤ s.exp ∧ s.exp ≤ 10 := by obtain ⟨h1, h2, h3, h4, h5, h6, h7, h8, h9, h10⟩ := HS.out; omega
    have Hb0 : Hid (0 ≤ s.exp ∧ s.exp ≤ 10) := b0
    obtain ⟨P, hP⟩ : ∃ P, pw s.exp = P := ⟨_, rfl⟩
    have HPw : Hid (∀ u, Calls Try.prog 23 #[.int .i64 s.exp] u fun e w' => e = .returned (.int .i64 P) ∧ w' = u) := fun u => by rw [← hP]; exact power_any _ u (by have := Hb0.out; omega) (by have := Hb0.out; omega)
    have kN : wrap64 (C + P) = C + P := w64 _ (by have := HC.out.2; have := pw_bd s.exp (by have := Hb0.out; omega); omega) (by have := HC.out.2; have := pw_bd s.exp (by have := Hb0.out; omega); omega)
    have HPP : Hid (pw s.exp = P) := hP
    clear hP
    have HW1 : Hid (Rp (w.setCell ⟨q, 16, none⟩ (.int .i64 (s.left - 1))) q a ⟨s.least, s.most, s.burst, s.ib, s.exp, s.reach, s.gone, s.left - 1, s.next⟩ ∧ w.grownBy (w.setCell ⟨q, 16, none⟩ (.int .i64 (s.left - 1))) (some q)) := ⟨H0.out.1.set (j := 16) (.int .i64 (s.left - 1)), grownBy_set _ ⟨q, 16, none⟩ _⟩
    clear b0
    have Hn : Hid (¬ s.left = 0) := by show ¬ _; omega
    by_cases h2 : 0 < s.left - 1
    · go_wp2_with fail
      refine (HPw.out _).mono ?_
      rintro e wq ⟨rfl, hwq⟩
      rw [hwq]
      clear hwq
      go_wp2_with fail
      rw [hQ.out]
      go_end0
      refine ⟨rfl, ?_, grownBy_trans HW1.out.2 (grownBy_trans (grownBy_set _ ⟨q, 15, none⟩ _) (grownBy_set _ ⟨q, 15, none⟩ _))⟩
      have hZ : Rp (((w.setCell ⟨q, 16, none⟩ (.int .i64 (s.left - 1))).setCell ⟨q, 15, none⟩ (.int .i64 (C + P))).setCell ⟨q, 15, none⟩ (.int .i64 (C + 2))) q a ⟨s.least, s.most, s.burst, s.ib, s.exp, s.reach, s.gone, s.left - 1, C + 2⟩ := (HW1.out.1.set (j := 15) (.int .i64 (C + P))).set (j := 15) (.int .i64 (C + 2))
      unfold sentS waitS
      rw [if_neg Hn.out, if_pos h2, HC.out.1]
      exact hZ
    · go_wp2_with fail
      refine (HPw.out _).mono ?_
      rintro e wq ⟨rfl, hwq⟩
      rw [hwq]
      clear hwq
      go_wp2_with fail
      rw [hQ.out]
      go_end0
      refine ⟨rfl, ?_, grownBy_trans HW1.out.2 (grownBy_set _ ⟨q, 15, none⟩ _)⟩
      have hZ : Rp ((w.setCell ⟨q, 16, none⟩ (.int .i64 (s.left - 1))).setCell ⟨q, 15, none⟩ (.int .i64 (C + P))) q a ⟨s.least, s.most, s.burst, s.ib, s.exp, s.reach, s.gone, s.left - 1, C + P⟩ := HW1.out.1.set (j := 15) (.int .i64 (C + P))
      unfold sentS waitS
      rw [if_neg Hn.out, if_neg (show ¬ 0 < s.left - 1 by omega), HC.out.1]
      simp only
      rw [HPP.out]
      exact hZ
  · have k2 : s.left = 0 := by have := HS.out.l0; omega
    rw [k2] at c16
    obtain ⟨RR, hRR⟩ : ∃ R, stR s = R := ⟨_, rfl⟩
    obtain ⟨G, hG⟩ : ∃ G, stG s = G := ⟨_, rfl⟩
    have bG := stG_bd HS.out
    rw [hG] at bG
    obtain ⟨E0, hE0⟩ : ∃ E, max s.least (min sys s.most) = E := ⟨_, rfl⟩
    have bE : 3 ≤ E0 ∧ E0 ≤ s.most := by obtain ⟨h1, h2, h3, h4, h5, h6, h7, h8, h9, h10⟩ := HS.out; omega
    have tm : (s.reach * 2).tmod 256 = RR := by rw [← hRR]; unfold stR; exact Int.tmod_eq_emod_of_nonneg (by have := HS.out.r0; omega)
    have k3 : wrap64 (s.reach * 2) = s.reach * 2 := w64 _ (by have := HS.out.r0; omega) (by have := HS.out.r1; omega)
    have mE : ∀ u, (Builtin.max_ #[3, 3] 3 #[.int .i64 s.least, .int .i64 (min sys s.most)]).run Try.prog u = .ok (.int .i64 E0) u := fun u => by rw [run_mx, hE0]
    have mn := run_mn
    have HL : Hid (s.left = 0 ∧ stR s = RR ∧ stG s = G ∧ stE s sys = min (E0 + max (G - 12) 0) s.most) := by
      refine ⟨k2, hRR, hG, ?_⟩
      unfold stE
      rw [hG]
      have := HS.out.le
      have := HS.out.em
      omega
    have HB : Hid (0 ≤ G ∧ G ≤ 100 ∧ 3 ≤ E0 ∧ E0 ≤ s.most ∧ s.most ≤ 10) := ⟨bG.1, bG.2, bE.1, bE.2, HS.out.hi⟩
    clear hE0 bE bG
    by_cases hr : RR = 0
    · have kG : wrap64 (s.gone + 1) = s.gone + 1 := w64 _ (by have := HS.out.g0; omega) (by have := HS.out.g1; omega)
      have mG : ∀ u, (Builtin.min_ #[3, 3] 3 #[.int .i64 (s.gone + 1), .int .i64 100]).run Try.prog u = .ok (.int .i64 G) u := fun u => by
        rw [run_mn, ← hG]
        unfold stG
        rw [hRR, if_pos hr]
      subst hr
      clear hRR hG mn
      go_wp2_with fail
      refine world_hid fun W1 hW1 => ?_
      have HW1 : Hid (Rp W1 q a ⟨s.least, s.most, s.burst, s.ib, s.exp, 0, G, 0, s.next⟩ ∧ w.grownBy W1 (some q)) := by
        rw [hW1.out]
        have h0 := H0.out.1
        unfold Rp rpL at h0
        rw [HL.out.1] at h0
        exact ⟨Bk.set (Bk.set h0 (j := 13) (.int .i64 0)) (j := 14) (.int .i64 G), grownBy_trans (grownBy_set _ ⟨q, 13, none⟩ _) (grownBy_set _ ⟨q, 14, none⟩ _)⟩
      clear hW1 c3 c4 c12 c13 c14 c15 c16 f12 f13 f14 f15 f16 tm k3
      have mn := run_mn
      have c3 : W1.cell? ⟨q, 3, none⟩ = some (.int .i64 s.least) := HW1.out.1.cell 3
      have c4 : W1.cell? ⟨q, 4, none⟩ = some (.int .i64 s.most) := HW1.out.1.cell 4
      have c12 : W1.cell? ⟨q, 12, none⟩ = some (.int .i64 s.exp) := HW1.out.1.cell 12
      have f12 : W1.frozen? ⟨q, 12, none⟩ = false := HW1.out.1.frozen 12
      refine wp_region_lastW (by kernel_rfl) (by kernel_rfl) (by rfl) (by kernel_rfl) ?_
      simp only [idleLast, idle]
      repeat (refine qw_step (fun K hK => ?_); go_simp; first | (refine hK _ ?_; clear hK K))
      refine qw_nil ?_
      intro _ hw'
      obtain ⟨nW2, hw''⟩ := hw'
      subst hw''
      refine wpOp_stL (cs := rpL a ⟨s.least, s.most, s.burst, s.ib, s.exp, 0, G, 0, s.next⟩) _ (by rfl) rfl 3 _ _ rfl HW1.out.1 12 (.int .i64 E0) (by rfl) (by rfl) rfl (by kernel_rfl) (by simp [rpL]) rfl ?_
      intro W2 hp hg _
      have HW2 : Hid (Rp W2 q a ⟨s.least, s.most, s.burst, s.ib, E0, 0, G, 0, s.next⟩ ∧ w.grownBy W2 (some q)) := ⟨hp, grownBy_trans (grownBy_trans HW1.out.2 (grownBy_drewN _ nW2 _)) hg⟩
      clear hp hg
      clear c3 c4 c12 f12 mE
      have c4 : W2.cell? ⟨q, 4, none⟩ = some (.int .i64 s.most) := HW2.out.1.cell 4
      have c5 : W2.cell? ⟨q, 5, none⟩ = some (.bool s.burst) := HW2.out.1.cell 5
      have c6 : W2.cell? ⟨q, 6, none⟩ = some (.bool s.ib) := HW2.out.1.cell 6
      have c12 : W2.cell? ⟨q, 12, none⟩ = some (.int .i64 E0) := HW2.out.1.cell 12
      have c13 : W2.cell? ⟨q, 13, none⟩ = some (.int .i64 0) := HW2.out.1.cell 13
      have c14 : W2.cell? ⟨q, 14, none⟩ = some (.int .i64 G) := HW2.out.1.cell 14
      have c15 : W2.cell? ⟨q, 15, none⟩ = some (.int .i64 s.next) := HW2.out.1.cell 15
      have c16 : W2.cell? ⟨q, 16, none⟩ = some (.int .i64 0) := HW2.out.1.cell 16
      have f12 : W2.frozen? ⟨q, 12, none⟩ = false := HW2.out.1.frozen 12
      have f15 : W2.frozen? ⟨q, 15, none⟩ = false := HW2.out.1.frozen 15
      have f16 : W2.frozen? ⟨q, 16, none⟩ = false := HW2.out.1.frozen 16
      by_cases hg : 12 < G
      · have kA : wrap64 (E0 + G) = E0 + G := w64 _ (by have := HB.out; omega) (by have := HB.out; omega)
        have kB : wrap64 (E0 + G - 12) = E0 + G - 12 := w64 _ (by have := HB.out; omega) (by have := HB.out; omega)
        have kA' : IntKind.i64.wrap (E0 + G) = E0 + G := by rw [IntWalk.i64_left]; exact kA
        have kB' : IntKind.i64.wrap (E0 + G - 12) = E0 + G - 12 := by rw [IntWalk.i64_left]; exact kB
        obtain ⟨E, hE⟩ : ∃ E, min (E0 + G - 12) s.most = E := ⟨_, rfl⟩
        have mE : ∀ u, (Builtin.min_ #[3, 3] 3 #[.int .i64 (E0 + G - 12), .int .i64 s.most]).run Try.prog u = .ok (.int .i64 E) u := fun u => by rw [run_mn, hE]
        have HE : Hid (E = min (E0 + G - 12) s.most ∧ 0 ≤ E ∧ E ≤ 10 ∧ 12 < G) := ⟨hE.symm, by have := HB.out; omega, by have := HB.out; omega, hg⟩
        clear hE mn
        go_wp2_with fail
        refine wp_region_lastW (by kernel_rfl) (by kernel_rfl) (by rfl) (by kernel_rfl) ?_
        simp only [idleLast, idle]
        repeat (refine qw_step (fun K hK => ?_); go_simp; first | (refine hK _ ?_; clear hK K))
        refine qw_nil ?_
        intro _ hw'
        obtain ⟨nW3, hw''⟩ := hw'
        subst hw''
        refine wpOp_stL (cs := rpL a ⟨s.least, s.most, s.burst, s.ib, E0, 0, G, 0, s.next⟩) _ (by rfl) rfl 3 _ _ rfl HW2.out.1 12 (.int .i64 E) (by rfl) (by rfl) rfl (by kernel_rfl) (by simp [rpL]) rfl ?_
        intro W3 hp hg _
        have HW3 : Hid (Rp W3 q a ⟨s.least, s.most, s.burst, s.ib, E, 0, G, 0, s.next⟩ ∧ w.grownBy W3 (some q)) := ⟨hp, grownBy_trans (grownBy_trans HW2.out.2 (grownBy_drewN _ nW3 _)) hg⟩
        clear hp hg
        clear c4 c5 c6 c12 c13 c14 c15 c16 f12 f15 f16 mE kA kB kA' kB'
        have c5 : W3.cell? ⟨q, 5, none⟩ = some (.bool s.burst) := HW3.out.1.cell 5
        have c6 : W3.cell? ⟨q, 6, none⟩ = some (.bool s.ib) := HW3.out.1.cell 6
        have c12 : W3.cell? ⟨q, 12, none⟩ = some (.int .i64 E) := HW3.out.1.cell 12
        have c13 : W3.cell? ⟨q, 13, none⟩ = some (.int .i64 0) := HW3.out.1.cell 13
        have c14 : W3.cell? ⟨q, 14, none⟩ = some (.int .i64 G) := HW3.out.1.cell 14
        have c15 : W3.cell? ⟨q, 15, none⟩ = some (.int .i64 s.next) := HW3.out.1.cell 15
        have c16 : W3.cell? ⟨q, 16, none⟩ = some (.int .i64 0) := HW3.out.1.cell 16
        have f12 : W3.frozen? ⟨q, 12, none⟩ = false := HW3.out.1.frozen 12
        have f15 : W3.frozen? ⟨q, 15, none⟩ = false := HW3.out.1.frozen 15
        have f16 : W3.frozen? ⟨q, 16, none⟩ = false := HW3.out.1.frozen 16
        obtain ⟨P, hP⟩ : ∃ P, pw E = P := ⟨_, rfl⟩
        have HPw : Hid (∀ u, Calls Try.prog 23 #[.int .i64 E] u fun e w' => e = .returned (.int .i64 P) ∧ w' = u) := fun u => by rw [← hP]; exact power_any _ u (by have := HE.out; omega) (by have := HE.out; omega)
        have kN : wrap64 (C + P) = C + P := w64 _ (by have := HC.out.2; have := pw_bd E (by have := HE.out; omega); omega) (by have := HC.out.2; have := pw_bd E (by have := HE.out; omega); omega)
        have HPP : Hid (pw E = P) := hP
        clear hP
        go_wp2_with fail
        refine (HPw.out _).mono ?_
        rintro e wq ⟨rfl, hwq⟩
        rw [hwq]
        clear hwq
        go_wp2_with fail
        rw [hQ.out]
        go_end0
        refine ⟨rfl, ?_, grownBy_trans HW3.out.2 (grownBy_set _ ⟨q, 15, none⟩ _)⟩
        have hZ : Rp ((W3).setCell ⟨q, 15, none⟩ (.int .i64 (C + P))) q a ⟨s.least, s.most, s.burst, s.ib, E, 0, G, 0, C + P⟩ := HW3.out.1.set (j := 15) (.int .i64 (C + P))
        have eL : stL s = 0 := by
          unfold stL
          rw [HL.out.2.1, HL.out.2.2.1, if_pos rfl]
          rw [if_neg (fun h => by have := h.2; omega)]
        have eE : stE s sys = E := by rw [HL.out.2.2.2]; have := HE.out; have := HB.out; omega
        unfold sentS waitS
        rw [if_pos HL.out.1, HL.out.2.1, HL.out.2.2.1, eL, eE]
        rw [if_neg (show ¬ (0 : Int) < 0 by omega), HC.out.1]
        simp only
        rw [HPP.out]
        exact hZ
      · obtain ⟨P, hP⟩ : ∃ P, pw E0 = P := ⟨_, rfl⟩
        have HPw : Hid (∀ u, Calls Try.prog 23 #[.int .i64 E0] u fun e w' => e = .returned (.int .i64 P) ∧ w' = u) := fun u => by rw [← hP]; exact power_any _ u (by have := HB.out; omega) (by have := HB.out; omega)
        have kN : wrap64 (C + P) = C + P := w64 _ (by have := HC.out.2; have := pw_bd E0 (by have := HB.out; omega); omega) (by have := HC.out.2; have := pw_bd E0 (by have := HB.out; omega); omega)
        have HPP : Hid (pw E0 = P) := hP
        clear hP
        rcases hb : s.ib with _ | _
        · rw [hb] at c6
          go_wp2_with fail
          refine (HPw.out _).mono ?_
          rintro e wq ⟨rfl, hwq⟩
          rw [hwq]
          clear hwq
          go_wp2_with fail
          rw [hQ.out]
          go_end0
          refine ⟨rfl, ?_, grownBy_trans HW2.out.2 (grownBy_set _ ⟨q, 15, none⟩ _)⟩
          have hZ : Rp ((W2).setCell ⟨q, 15, none⟩ (.int .i64 (C + P))) q a ⟨s.least, s.most, s.burst, s.ib, E0, 0, G, 0, C + P⟩ := HW2.out.1.set (j := 15) (.int .i64 (C + P))
          have eL : stL s = 0 := by
            unfold stL
            rw [HL.out.2.1, HL.out.2.2.1, if_pos rfl]
            rw [hb, if_neg (fun h => by cases h.1)]
          have eE : stE s sys = E0 := by rw [HL.out.2.2.2]; have := HB.out; omega
          unfold sentS waitS
          rw [if_pos HL.out.1, HL.out.2.1, HL.out.2.2.1, eL, eE]
          rw [if_neg (show ¬ (0 : Int) < 0 by omega), HC.out.1]
          simp only
          rw [HPP.out]
          exact hZ
        · rw [hb] at c6
          go_wp2_with fail
          have HW3 : Hid (Rp (W2.setCell ⟨q, 16, none⟩ (.int .i64 5)) q a ⟨s.least, s.most, s.burst, s.ib, E0, 0, G, 5, s.next⟩ ∧ w.grownBy (W2.setCell ⟨q, 16, none⟩ (.int .i64 5)) (some q)) := ⟨HW2.out.1.set (j := 16) (.int .i64 5), grownBy_trans HW2.out.2 (grownBy_set _ ⟨q, 16, none⟩ _)⟩
          refine (HPw.out _).mono ?_
          rintro e wq ⟨rfl, hwq⟩
          rw [hwq]
          clear hwq
          go_wp2_with fail
          rw [hQ.out]
          go_end0
          refine ⟨rfl, ?_, grownBy_trans HW3.out.2 (grownBy_trans (grownBy_set _ ⟨q, 15, none⟩ _) (grownBy_set _ ⟨q, 15, none⟩ _))⟩
          have hZ : Rp (((W2.setCell ⟨q, 16, none⟩ (.int .i64 5)).setCell ⟨q, 15, none⟩ (.int .i64 (C + P))).setCell ⟨q, 15, none⟩ (.int .i64 (C + 2))) q a ⟨s.least, s.most, s.burst, s.ib, E0, 0, G, 5, C + 2⟩ := (HW3.out.1.set (j := 15) (.int .i64 (C + P))).set (j := 15) (.int .i64 (C + 2))
          have eL : stL s = 5 := by
            unfold stL
            rw [HL.out.2.1, HL.out.2.2.1, if_pos rfl]
            rw [hb, if_pos ⟨rfl, by omega⟩]
          have eE : stE s sys = E0 := by rw [HL.out.2.2.2]; have := HB.out; omega
          unfold sentS waitS
          rw [if_pos HL.out.1, HL.out.2.1, HL.out.2.2.1, eL, eE]
          rw [if_pos (show (0 : Int) < 5 by omega), HC.out.1]
          exact hZ
    · have hr' : (RR == 0) = false := by simpa using hr
      have eG : s.gone = G := by rw [← hG]; unfold stG; rw [hRR, if_neg hr]
      rw [eG] at c14
      have Hr : Hid (¬ RR = 0) := hr
      have HeG : Hid (s.gone = G) := eG
      clear hRR hG mn eG hr
      go_wp2_with fail
      refine world_hid fun W1 hW1 => ?_
      have HW1 : Hid (Rp W1 q a ⟨s.least, s.most, s.burst, s.ib, s.exp, RR, G, 0, s.next⟩ ∧ w.grownBy W1 (some q)) := by
        rw [hW1.out]
        have h0 := H0.out.1
        unfold Rp rpL at h0
        rw [HL.out.1, HeG.out] at h0
        exact ⟨Bk.set h0 (j := 13) (.int .i64 RR), grownBy_set _ ⟨q, 13, none⟩ _⟩
      clear hW1 c3 c4 c12 c13 c14 c15 c16 f12 f13 f14 f15 f16 tm k3
      have mn := run_mn
      have c3 : W1.cell? ⟨q, 3, none⟩ = some (.int .i64 s.least) := HW1.out.1.cell 3
      have c4 : W1.cell? ⟨q, 4, none⟩ = some (.int .i64 s.most) := HW1.out.1.cell 4
      have c12 : W1.cell? ⟨q, 12, none⟩ = some (.int .i64 s.exp) := HW1.out.1.cell 12
      have f12 : W1.frozen? ⟨q, 12, none⟩ = false := HW1.out.1.frozen 12
      refine wp_region_lastW (by kernel_rfl) (by kernel_rfl) (by rfl) (by kernel_rfl) ?_
      simp only [idleLast, idle]
      repeat (refine qw_step (fun K hK => ?_); go_simp; first | (refine hK _ ?_; clear hK K))
      refine qw_nil ?_
      intro _ hw'
      obtain ⟨nW2, hw''⟩ := hw'
      subst hw''
      refine wpOp_stL (cs := rpL a ⟨s.least, s.most, s.burst, s.ib, s.exp, RR, G, 0, s.next⟩) _ (by rfl) rfl 3 _ _ rfl HW1.out.1 12 (.int .i64 E0) (by rfl) (by rfl) rfl (by kernel_rfl) (by simp [rpL]) rfl ?_
      intro W2 hp hg _
      have HW2 : Hid (Rp W2 q a ⟨s.least, s.most, s.burst, s.ib, E0, RR, G, 0, s.next⟩ ∧ w.grownBy W2 (some q)) := ⟨hp, grownBy_trans (grownBy_trans HW1.out.2 (grownBy_drewN _ nW2 _)) hg⟩
      clear hp hg
      clear c3 c4 c12 f12 mE
      have c4 : W2.cell? ⟨q, 4, none⟩ = some (.int .i64 s.most) := HW2.out.1.cell 4
      have c5 : W2.cell? ⟨q, 5, none⟩ = some (.bool s.burst) := HW2.out.1.cell 5
      have c6 : W2.cell? ⟨q, 6, none⟩ = some (.bool s.ib) := HW2.out.1.cell 6
      have c12 : W2.cell? ⟨q, 12, none⟩ = some (.int .i64 E0) := HW2.out.1.cell 12
      have c13 : W2.cell? ⟨q, 13, none⟩ = some (.int .i64 RR) := HW2.out.1.cell 13
      have c14 : W2.cell? ⟨q, 14, none⟩ = some (.int .i64 G) := HW2.out.1.cell 14
      have c15 : W2.cell? ⟨q, 15, none⟩ = some (.int .i64 s.next) := HW2.out.1.cell 15
      have c16 : W2.cell? ⟨q, 16, none⟩ = some (.int .i64 0) := HW2.out.1.cell 16
      have f12 : W2.frozen? ⟨q, 12, none⟩ = false := HW2.out.1.frozen 12
      have f15 : W2.frozen? ⟨q, 15, none⟩ = false := HW2.out.1.frozen 15
      have f16 : W2.frozen? ⟨q, 16, none⟩ = false := HW2.out.1.frozen 16
      by_cases hg : 12 < G
      · have kA : wrap64 (E0 + G) = E0 + G := w64 _ (by have := HB.out; omega) (by have := HB.out; omega)
        have kB : wrap64 (E0 + G - 12) = E0 + G - 12 := w64 _ (by have := HB.out; omega) (by have := HB.out; omega)
        have kA' : IntKind.i64.wrap (E0 + G) = E0 + G := by rw [IntWalk.i64_left]; exact kA
        have kB' : IntKind.i64.wrap (E0 + G - 12) = E0 + G - 12 := by rw [IntWalk.i64_left]; exact kB
        obtain ⟨E, hE⟩ : ∃ E, min (E0 + G - 12) s.most = E := ⟨_, rfl⟩
        have mE : ∀ u, (Builtin.min_ #[3, 3] 3 #[.int .i64 (E0 + G - 12), .int .i64 s.most]).run Try.prog u = .ok (.int .i64 E) u := fun u => by rw [run_mn, hE]
        have HE : Hid (E = min (E0 + G - 12) s.most ∧ 0 ≤ E ∧ E ≤ 10 ∧ 12 < G) := ⟨hE.symm, by have := HB.out; omega, by have := HB.out; omega, hg⟩
        clear hE mn
        go_wp2_with fail
        refine wp_region_lastW (by kernel_rfl) (by kernel_rfl) (by rfl) (by kernel_rfl) ?_
        simp only [idleLast, idle]
        repeat (refine qw_step (fun K hK => ?_); go_simp; first | (refine hK _ ?_; clear hK K))
        refine qw_nil ?_
        intro _ hw'
        obtain ⟨nW3, hw''⟩ := hw'
        subst hw''
        refine wpOp_stL (cs := rpL a ⟨s.least, s.most, s.burst, s.ib, E0, RR, G, 0, s.next⟩) _ (by rfl) rfl 3 _ _ rfl HW2.out.1 12 (.int .i64 E) (by rfl) (by rfl) rfl (by kernel_rfl) (by simp [rpL]) rfl ?_
        intro W3 hp hg _
        have HW3 : Hid (Rp W3 q a ⟨s.least, s.most, s.burst, s.ib, E, RR, G, 0, s.next⟩ ∧ w.grownBy W3 (some q)) := ⟨hp, grownBy_trans (grownBy_trans HW2.out.2 (grownBy_drewN _ nW3 _)) hg⟩
        clear hp hg
        clear c4 c5 c6 c12 c13 c14 c15 c16 f12 f15 f16 mE kA kB kA' kB'
        have c5 : W3.cell? ⟨q, 5, none⟩ = some (.bool s.burst) := HW3.out.1.cell 5
        have c6 : W3.cell? ⟨q, 6, none⟩ = some (.bool s.ib) := HW3.out.1.cell 6
        have c12 : W3.cell? ⟨q, 12, none⟩ = some (.int .i64 E) := HW3.out.1.cell 12
        have c13 : W3.cell? ⟨q, 13, none⟩ = some (.int .i64 RR) := HW3.out.1.cell 13
        have c14 : W3.cell? ⟨q, 14, none⟩ = some (.int .i64 G) := HW3.out.1.cell 14
        have c15 : W3.cell? ⟨q, 15, none⟩ = some (.int .i64 s.next) := HW3.out.1.cell 15
        have c16 : W3.cell? ⟨q, 16, none⟩ = some (.int .i64 0) := HW3.out.1.cell 16
        have f12 : W3.frozen? ⟨q, 12, none⟩ = false := HW3.out.1.frozen 12
        have f15 : W3.frozen? ⟨q, 15, none⟩ = false := HW3.out.1.frozen 15
        have f16 : W3.frozen? ⟨q, 16, none⟩ = false := HW3.out.1.frozen 16
        obtain ⟨P, hP⟩ : ∃ P, pw E = P := ⟨_, rfl⟩
        have HPw : Hid (∀ u, Calls Try.prog 23 #[.int .i64 E] u fun e w' => e = .returned (.int .i64 P) ∧ w' = u) := fun u => by rw [← hP]; exact power_any _ u (by have := HE.out; omega) (by have := HE.out; omega)
        have kN : wrap64 (C + P) = C + P := w64 _ (by have := HC.out.2; have := pw_bd E (by have := HE.out; omega); omega) (by have := HC.out.2; have := pw_bd E (by have := HE.out; omega); omega)
        have HPP : Hid (pw E = P) := hP
        clear hP
        go_wp2_with fail
        refine (HPw.out _).mono ?_
        rintro e wq ⟨rfl, hwq⟩
        rw [hwq]
        clear hwq
        go_wp2_with fail
        rw [hQ.out]
        go_end0
        refine ⟨rfl, ?_, grownBy_trans HW3.out.2 (grownBy_set _ ⟨q, 15, none⟩ _)⟩
        have hZ : Rp ((W3).setCell ⟨q, 15, none⟩ (.int .i64 (C + P))) q a ⟨s.least, s.most, s.burst, s.ib, E, RR, G, 0, C + P⟩ := HW3.out.1.set (j := 15) (.int .i64 (C + P))
        have eL : stL s = 0 := by
          unfold stL
          rw [HL.out.2.1, HL.out.2.2.1, if_neg Hr.out]
          rw [if_neg (fun h => by have := h.2; omega)]
        have eE : stE s sys = E := by rw [HL.out.2.2.2]; have := HE.out; have := HB.out; omega
        unfold sentS waitS
        rw [if_pos HL.out.1, HL.out.2.1, HL.out.2.2.1, eL, eE]
        rw [if_neg (show ¬ (0 : Int) < 0 by omega), HC.out.1]
        simp only
        rw [HPP.out]
        exact hZ
      · obtain ⟨P, hP⟩ : ∃ P, pw E0 = P := ⟨_, rfl⟩
        have HPw : Hid (∀ u, Calls Try.prog 23 #[.int .i64 E0] u fun e w' => e = .returned (.int .i64 P) ∧ w' = u) := fun u => by rw [← hP]; exact power_any _ u (by have := HB.out; omega) (by have := HB.out; omega)
        have kN : wrap64 (C + P) = C + P := w64 _ (by have := HC.out.2; have := pw_bd E0 (by have := HB.out; omega); omega) (by have := HC.out.2; have := pw_bd E0 (by have := HB.out; omega); omega)
        have HPP : Hid (pw E0 = P) := hP
        clear hP
        rcases hb : s.burst with _ | _
        · rw [hb] at c5
          go_wp2_with fail
          refine (HPw.out _).mono ?_
          rintro e wq ⟨rfl, hwq⟩
          rw [hwq]
          clear hwq
          go_wp2_with fail
          rw [hQ.out]
          go_end0
          refine ⟨rfl, ?_, grownBy_trans HW2.out.2 (grownBy_set _ ⟨q, 15, none⟩ _)⟩
          have hZ : Rp ((W2).setCell ⟨q, 15, none⟩ (.int .i64 (C + P))) q a ⟨s.least, s.most, s.burst, s.ib, E0, RR, G, 0, C + P⟩ := HW2.out.1.set (j := 15) (.int .i64 (C + P))
          have eL : stL s = 0 := by
            unfold stL
            rw [HL.out.2.1, HL.out.2.2.1, if_neg Hr.out]
            rw [hb, if_neg (fun h => by cases h.1)]
          have eE : stE s sys = E0 := by rw [HL.out.2.2.2]; have := HB.out; omega
          unfold sentS waitS
          rw [if_pos HL.out.1, HL.out.2.1, HL.out.2.2.1, eL, eE]
          rw [if_neg (show ¬ (0 : Int) < 0 by omega), HC.out.1]
          simp only
          rw [HPP.out]
          exact hZ
        · rw [hb] at c5
          go_wp2_with fail
          have HW3 : Hid (Rp (W2.setCell ⟨q, 16, none⟩ (.int .i64 5)) q a ⟨s.least, s.most, s.burst, s.ib, E0, RR, G, 5, s.next⟩ ∧ w.grownBy (W2.setCell ⟨q, 16, none⟩ (.int .i64 5)) (some q)) := ⟨HW2.out.1.set (j := 16) (.int .i64 5), grownBy_trans HW2.out.2 (grownBy_set _ ⟨q, 16, none⟩ _)⟩
          refine (HPw.out _).mono ?_
          rintro e wq ⟨rfl, hwq⟩
          rw [hwq]
          clear hwq
          go_wp2_with fail
          rw [hQ.out]
          go_end0
          refine ⟨rfl, ?_, grownBy_trans HW3.out.2 (grownBy_trans (grownBy_set _ ⟨q, 15, none⟩ _) (grownBy_set _ ⟨q, 15, none⟩ _))⟩
          have hZ : Rp (((W2.setCell ⟨q, 16, none⟩ (.int .i64 5)).setCell ⟨q, 15, none⟩ (.int .i64 (C + P))).setCell ⟨q, 15, none⟩ (.int .i64 (C + 2))) q a ⟨s.least, s.most, s.burst, s.ib, E0, RR, G, 5, C + 2⟩ := (HW3.out.1.set (j := 15) (.int .i64 (C + P))).set (j := 15) (.int .i64 (C + 2))
          have eL : stL s = 5 := by
            unfold stL
            rw [HL.out.2.1, HL.out.2.2.1, if_neg Hr.out]
            rw [hb, if_pos ⟨rfl, by omega⟩]
          have eE : stE s sys = E0 := by rw [HL.out.2.2.2]; have := HB.out; omega
          unfold sentS waitS
          rw [if_pos HL.out.1, HL.out.2.1, HL.out.2.2.1, eL, eE]
          rw [if_pos (show (0 : Int) < 5 by omega), HC.out.1]
          exact hZ
end Go.Proofs.Ytocaiimhbmhakaa
