/- Sent and New of the program. -/
import Derived.Test.YtocaiimhbmhakaaJB
namespace Go.Proofs.Ytocaiimhbmhakaa
open Go Go.RowKit Go.Sort
theorem shl_one (r : Int) : IntKind.u8.wrap (r * 2) = r * 2 % 256 := by
  first | rfl | (simp [IntKind.wrap]; omega) | simp [IntKind.wrap]
set_option maxHeartbeats 1000000 in
theorem sent_any (p : Nat) (s : Pl) (now sys : Int) (w : World) (h : Po w p s) (hs : OkL s) : Calls Try.prog 12 #[.pointer (some ⟨p, 0, none⟩), .int .i64 now, .int .i64 sys] w fun e w' => e = .returned (.tuple #[]) ∧ Po w' p (sentS s now sys) ∧ w.grownBy w' (some p) := by
  have HP : Hid (Po w p s) := h
  have HS : Hid (OkL s) := hs
  have c7 : w.cell? ⟨p, 7, none⟩ = some (.int .i64 s.left) := h.cell 7
  have c5 : w.cell? ⟨p, 5, none⟩ = some (.int .u8 s.reach) := h.cell 5
  clear h hs
  go_enter Try.func12, Try.ntmps12
  refine post_hid fun Q hQ => ?_
  refine seq_hid fun R hR => ?_
  go_wp2
  go_quiet (fail)
  go_wp2
  refine world_hid fun W hW => ?_
  have HW : Hid (Po W p s ∧ w.grownBy W (some p)) := by
    rw [hW.out]; exact ⟨HP.out, grownBy_drewN _ _ _⟩
  clear hW
  rw [hR.out]
  clear hR
  obtain ⟨RR, hRR⟩ : ∃ RR, s.reach * 2 % 256 = RR := ⟨_, rfl⟩
  have HR : Hid (stR s = RR) := hRR
  rw [hRR]
  have c0 : W.cell? ⟨p, 0, none⟩ = some (.int .i64 s.least) := HW.out.1.cell 0
  have c1 : W.cell? ⟨p, 1, none⟩ = some (.int .i64 s.most) := HW.out.1.cell 1
  have c4 : W.cell? ⟨p, 4, none⟩ = some (.int .i64 s.exp) := HW.out.1.cell 4
  have c5 : W.cell? ⟨p, 5, none⟩ = some (.int .u8 s.reach) := HW.out.1.cell 5
  have c6 : W.cell? ⟨p, 6, none⟩ = some (.int .i64 s.gone) := HW.out.1.cell 6
  have c7 : W.cell? ⟨p, 7, none⟩ = some (.int .i64 s.left) := HW.out.1.cell 7
  have f4 : W.frozen? ⟨p, 4, none⟩ = false := HW.out.1.frozen 4
  have f5 : W.frozen? ⟨p, 5, none⟩ = false := HW.out.1.frozen 5
  have f6 : W.frozen? ⟨p, 6, none⟩ = false := HW.out.1.frozen 6
  have f7 : W.frozen? ⟨p, 7, none⟩ = false := HW.out.1.frozen 7
  clear hRR
  by_cases hl : s.left = 0
  · rw [hl]
    rw [hl] at c7
    by_cases hr : RR = 0
    · rw [hr]
      have k1 : wrap64 (s.gone + 1) = s.gone + 1 := w64 _ (by have := HS.out.g0; omega) (by have := HS.out.g1; omega)
      have mn := run_mn
      go_wp2_with fail
      have eG : stG s = (min (s.gone + 1) 100) := by unfold stG; rw [HR.out, if_pos hr]
      have bG : 0 ≤ (min (s.gone + 1) 100) ∧ (min (s.gone + 1) 100) ≤ 100 := by rw [← eG]; exact stG_bd HS.out
      have h0 : Po ((W.setCell ⟨p, 6, none⟩ (.int .i64 (min (s.gone + 1) 100))).setCell ⟨p, 5, none⟩ (.int .u8 0)) p ⟨s.least, s.most, s.burst, s.ib, s.exp, 0, (min (s.gone + 1) 100), 0, s.next⟩ := by
        have q := HW.out.1
        unfold Po plL at q
        rw [hl] at q
        exact (Bk.set (Bk.set q (j := 6) (.int .i64 (min (s.gone + 1) 100))) (j := 5) (.int .u8 0))
      refine (pace_any p _ sys _ h0 ⟨by have := HS.out.lo; show 0 ≤ s.least; omega, HS.out.hi, by have := HS.out.le; have := HS.out.em; show s.least ≤ s.most; omega⟩ bG).mono ?_
      rintro e w1 ⟨rfl, m1, hw1⟩
      obtain ⟨E, hE⟩ : ∃ E, min (min (max sys s.least) s.most + max ((min (s.gone + 1) 100) - 12) 0) s.most = E := ⟨_, rfl⟩
      have HE : Hid (stE s sys = E ∧ 0 ≤ E ∧ E ≤ 10) := by
        refine ⟨by unfold stE; rw [eG]; exact hE, ?_⟩
        obtain ⟨h1, h2, h3, h4, h5, h6, h7, h8, h9, h10⟩ := HS.out
        omega
      simp only
      rw [hE]
      have H1 : Hid (Po w1 p ⟨s.least, s.most, s.burst, s.ib, s.exp, 0, (min (s.gone + 1) 100), 0, s.next⟩ ∧ w.grownBy w1 (some p)) := by
        rw [hw1]
        exact ⟨h0, grownBy_trans (grownBy_trans HW.out.2 (grownBy_trans (grownBy_set _ ⟨p, 6, none⟩ _) (grownBy_set _ ⟨p, 5, none⟩ _))) (grownBy_drewN _ _ _)⟩
      have HG : Hid (stG s = (min (s.gone + 1) 100)) := eG
      clear hw1 hE h0 eG bG c0 c1 c4 c5 c6 c7 f4 f5 f6 f7
      have d4 : w1.cell? ⟨p, 4, none⟩ = some (.int .i64 s.exp) := H1.out.1.cell 4
      have d7 : w1.cell? ⟨p, 7, none⟩ = some (.int .i64 0) := H1.out.1.cell 7
      have g4 : w1.frozen? ⟨p, 4, none⟩ = false := H1.out.1.frozen 4
      have g7 : w1.frozen? ⟨p, 7, none⟩ = false := H1.out.1.frozen 7
      go_wp2_with fail
      have h2 : Po (w1.setCell ⟨p, 4, none⟩ (.int .i64 E)) p ⟨s.least, s.most, s.burst, s.ib, E, 0, (min (s.gone + 1) 100), 0, s.next⟩ := H1.out.1.set (j := 4) (.int .i64 E)
      obtain ⟨L, hL⟩ : ∃ L : Int, (if (if 0 = 0 then s.ib else s.burst) = true ∧ (min (s.gone + 1) 100) ≤ 12 then (6 : Int) else 1) = L := ⟨_, rfl⟩
      refine Calls.mono (R := fun e w' => e = .returned (.int .i64 L) ∧ w' = w1.setCell ⟨p, 4, none⟩ (.int .i64 E)) (by rw [← hL]; exact questions_any p _ _ h2) ?_
      rintro e w2 ⟨rfl, hw2⟩
      have HL : Hid (stL s = L - 1 ∧ 0 ≤ L ∧ L ≤ 6) := by
        rw [← hL]
        refine ⟨?_, by split <;> omega, by split <;> omega⟩
        unfold stL
        rw [HG.out, HR.out]
        rw [hr]
        (repeat' split) <;> first | rfl | simp_all
      have H2 : Hid (Po w2 p ⟨s.least, s.most, s.burst, s.ib, E, 0, (min (s.gone + 1) 100), 0, s.next⟩ ∧ w.grownBy w2 (some p)) := by
        rw [hw2]
        exact ⟨h2, grownBy_trans H1.out.2 (grownBy_set _ ⟨p, 4, none⟩ _)⟩
      have j7 : w2.cell? ⟨p, 7, none⟩ = some (.int .i64 0) := H2.out.1.cell 7
      have i7 : w2.frozen? ⟨p, 7, none⟩ = false := H2.out.1.frozen 7
      have kL : wrap64 (L - 1) = L - 1 := w64 _ (by have := HL.out.2; omega) (by have := HL.out.2; omega)
      clear hw2 h2 hL d4 d7 g4 g7
      go_wp2_with fail
      have h3 : Po (w2.setCell ⟨p, 7, none⟩ (.int .i64 (L - 1))) p ⟨s.least, s.most, s.burst, s.ib, E, 0, (min (s.gone + 1) 100), L - 1, s.next⟩ := H2.out.1.set (j := 7) (.int .i64 (L - 1))
      first | (refine (wait_any p _ now _ h3 HE.out.2).mono ?_) | (have h4 : Po ((w2.setCell ⟨p, 7, none⟩ (.int .i64 L)).setCell ⟨p, 7, none⟩ (.int .i64 (L - 1))) p ⟨s.least, s.most, s.burst, s.ib, E, 0, (min (s.gone + 1) 100), L - 1, s.next⟩ := (H2.out.1.set (j := 7) (.int .i64 L)).set (j := 7) (.int .i64 (L - 1)); refine (wait_any p _ now _ h4 HE.out.2).mono ?_)
      rintro e w3 ⟨rfl, h5, h6⟩
      go_wp2_with fail
      rw [hQ.out]
      go_end0
      refine ⟨rfl, ?_, grownBy_trans (grownBy_trans H2.out.2 ?_) h6⟩
      · unfold sentS
        rw [if_pos hl, HE.out.1, HR.out, HG.out, HL.out.1]
        rw [hr]
        exact h5
      · first | exact grownBy_set _ ⟨p, 7, none⟩ _ | exact grownBy_trans (grownBy_set _ ⟨p, 7, none⟩ _) (grownBy_set _ ⟨p, 7, none⟩ _)
    · have hr' : (RR == 0) = false := by simpa using hr
      go_wp2_with fail
      have eG : stG s = s.gone := by unfold stG; rw [HR.out, if_neg hr]
      have bG : 0 ≤ s.gone ∧ s.gone ≤ 100 := by rw [← eG]; exact stG_bd HS.out
      have h0 : Po (W.setCell ⟨p, 5, none⟩ (.int .u8 RR)) p ⟨s.least, s.most, s.burst, s.ib, s.exp, RR, s.gone, 0, s.next⟩ := by
        have q := HW.out.1
        unfold Po plL at q
        rw [hl] at q
        exact (Bk.set q (j := 5) (.int .u8 RR))
      refine (pace_any p _ sys _ h0 ⟨by have := HS.out.lo; show 0 ≤ s.least; omega, HS.out.hi, by have := HS.out.le; have := HS.out.em; show s.least ≤ s.most; omega⟩ bG).mono ?_
      rintro e w1 ⟨rfl, m1, hw1⟩
      obtain ⟨E, hE⟩ : ∃ E, min (min (max sys s.least) s.most + max (s.gone - 12) 0) s.most = E := ⟨_, rfl⟩
      have HE : Hid (stE s sys = E ∧ 0 ≤ E ∧ E ≤ 10) := by
        refine ⟨by unfold stE; rw [eG]; exact hE, ?_⟩
        obtain ⟨h1, h2, h3, h4, h5, h6, h7, h8, h9, h10⟩ := HS.out
        omega
      simp only
      rw [hE]
      have H1 : Hid (Po w1 p ⟨s.least, s.most, s.burst, s.ib, s.exp, RR, s.gone, 0, s.next⟩ ∧ w.grownBy w1 (some p)) := by
        rw [hw1]
        exact ⟨h0, grownBy_trans (grownBy_trans HW.out.2 (grownBy_set _ ⟨p, 5, none⟩ _)) (grownBy_drewN _ _ _)⟩
      have HG : Hid (stG s = s.gone) := eG
      clear hw1 hE h0 eG bG c0 c1 c4 c5 c6 c7 f4 f5 f6 f7
      have d4 : w1.cell? ⟨p, 4, none⟩ = some (.int .i64 s.exp) := H1.out.1.cell 4
      have d7 : w1.cell? ⟨p, 7, none⟩ = some (.int .i64 0) := H1.out.1.cell 7
      have g4 : w1.frozen? ⟨p, 4, none⟩ = false := H1.out.1.frozen 4
      have g7 : w1.frozen? ⟨p, 7, none⟩ = false := H1.out.1.frozen 7
      go_wp2_with fail
      have h2 : Po (w1.setCell ⟨p, 4, none⟩ (.int .i64 E)) p ⟨s.least, s.most, s.burst, s.ib, E, RR, s.gone, 0, s.next⟩ := H1.out.1.set (j := 4) (.int .i64 E)
      obtain ⟨L, hL⟩ : ∃ L : Int, (if (if RR = 0 then s.ib else s.burst) = true ∧ s.gone ≤ 12 then (6 : Int) else 1) = L := ⟨_, rfl⟩
      refine Calls.mono (R := fun e w' => e = .returned (.int .i64 L) ∧ w' = w1.setCell ⟨p, 4, none⟩ (.int .i64 E)) (by rw [← hL]; exact questions_any p _ _ h2) ?_
      rintro e w2 ⟨rfl, hw2⟩
      have HL : Hid (stL s = L - 1 ∧ 0 ≤ L ∧ L ≤ 6) := by
        rw [← hL]
        refine ⟨?_, by split <;> omega, by split <;> omega⟩
        unfold stL
        rw [HG.out, HR.out]
        skip
        (repeat' split) <;> first | rfl | simp_all
      have H2 : Hid (Po w2 p ⟨s.least, s.most, s.burst, s.ib, E, RR, s.gone, 0, s.next⟩ ∧ w.grownBy w2 (some p)) := by
        rw [hw2]
        exact ⟨h2, grownBy_trans H1.out.2 (grownBy_set _ ⟨p, 4, none⟩ _)⟩
      have j7 : w2.cell? ⟨p, 7, none⟩ = some (.int .i64 0) := H2.out.1.cell 7
      have i7 : w2.frozen? ⟨p, 7, none⟩ = false := H2.out.1.frozen 7
      have kL : wrap64 (L - 1) = L - 1 := w64 _ (by have := HL.out.2; omega) (by have := HL.out.2; omega)
      clear hw2 h2 hL d4 d7 g4 g7
      go_wp2_with fail
      have h3 : Po (w2.setCell ⟨p, 7, none⟩ (.int .i64 (L - 1))) p ⟨s.least, s.most, s.burst, s.ib, E, RR, s.gone, L - 1, s.next⟩ := H2.out.1.set (j := 7) (.int .i64 (L - 1))
      first | (refine (wait_any p _ now _ h3 HE.out.2).mono ?_) | (have h4 : Po ((w2.setCell ⟨p, 7, none⟩ (.int .i64 L)).setCell ⟨p, 7, none⟩ (.int .i64 (L - 1))) p ⟨s.least, s.most, s.burst, s.ib, E, RR, s.gone, L - 1, s.next⟩ := (H2.out.1.set (j := 7) (.int .i64 L)).set (j := 7) (.int .i64 (L - 1)); refine (wait_any p _ now _ h4 HE.out.2).mono ?_)
      rintro e w3 ⟨rfl, h5, h6⟩
      go_wp2_with fail
      rw [hQ.out]
      go_end0
      refine ⟨rfl, ?_, grownBy_trans (grownBy_trans H2.out.2 ?_) h6⟩
      · unfold sentS
        rw [if_pos hl, HE.out.1, HR.out, HG.out, HL.out.1]
        skip
        exact h5
      · first | exact grownBy_set _ ⟨p, 7, none⟩ _ | exact grownBy_trans (grownBy_set _ ⟨p, 7, none⟩ _) (grownBy_set _ ⟨p, 7, none⟩ _)
  · have hl' : (s.left == 0) = false := by simpa using hl
    have k1 : wrap64 (s.left - 1) = s.left - 1 := w64 _ (by have := HS.out.l0; omega) (by have := HS.out.l1; omega)
    rw [hl']
    go_wp2_with fail
    have h2 : Po (W.setCell ⟨p, 7, none⟩ (.int .i64 (s.left - 1))) p { s with left := s.left - 1 } := HW.out.1.set (j := 7) (.int .i64 (s.left - 1))
    refine (wait_any p _ now _ h2 ⟨by have := HS.out.lo; have := HS.out.le; show 0 ≤ s.exp; omega, by have := HS.out.em; have := HS.out.hi; show s.exp ≤ 10; omega⟩).mono ?_
    rintro e w' ⟨rfl, h3, h4⟩
    go_wp2_with fail
    rw [hQ.out]
    go_end0
    refine ⟨rfl, ?_, grownBy_trans (grownBy_trans HW.out.2 (grownBy_set _ ⟨p, 7, none⟩ _)) h4⟩
    unfold sentS
    rw [if_neg hl]
    exact h3
end Go.Proofs.Ytocaiimhbmhakaa
