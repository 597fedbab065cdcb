/- The program's functions that write, further: the exponent, what is followed, begun anew, slewed. -/
import Derived.Test.YtbagfnafkpbanaaLpB
namespace Go.Proofs.Ytbagfnafkpbanaa
open Go Go.RowKit Go.Sort
set_option linter.unusedVariables false
theorem wrapS {n T : Int} (h : n = T) (h0 : -9223372036854775808 ≤ n) (h1 : n < 9223372036854775808) : wrap64 n = T ∧ IntKind.i64.wrap n = T := by
  have e : wrap64 n = T := by rw [w64i _ h0 h1, h]
  exact ⟨e, by rw [IntWalk.i64_left]; exact e⟩
/-- the second half of weigh, once the tally is T -/
theorem wg_end {p : Nat} {s : Lp} {b : Bool} {T : Int} {w W W' : World} (hT : tlI s b = T) (hp : Po W p { s with tally := T }) (hg : w.grownBy W (some p))
    (h : (30 < T ∧ W' = (W.setCell ⟨p, 8, none⟩ (.int .i64 (min (s.exp + 1) 10))).setCell ⟨p, 9, none⟩ (.int .i64 0)) ∨ (T < -30 ∧ W' = (W.setCell ⟨p, 8, none⟩ (.int .i64 (max (s.exp - 1) 3))).setCell ⟨p, 9, none⟩ (.int .i64 0)) ∨ (¬ 30 < T ∧ ¬ T < -30 ∧ W' = W)) : Po W' p (wgS s b) ∧ w.grownBy W' (some p) := by
  rcases h with ⟨h1, rfl⟩ | ⟨h1, rfl⟩ | ⟨h1, h2, rfl⟩
  · have e : wgS s b = { s with exp := min (s.exp + 1) 10, tally := 0 } := by unfold wgS wgE wgT; rw [hT, if_pos h1, if_pos (.inl h1)]
    rw [e]
    exact ⟨(hp.set (j := 8) _).set (j := 9) _, grownBy_trans hg (grownBy_trans (grownBy_set _ ⟨p, 8, none⟩ _) (grownBy_set _ ⟨p, 9, none⟩ _))⟩
  · have e : wgS s b = { s with exp := max (s.exp - 1) 3, tally := 0 } := by unfold wgS wgE wgT; rw [hT, if_neg (by omega), if_pos h1, if_pos (.inr h1)]
    rw [e]
    exact ⟨(hp.set (j := 8) _).set (j := 9) _, grownBy_trans hg (grownBy_trans (grownBy_set _ ⟨p, 8, none⟩ _) (grownBy_set _ ⟨p, 9, none⟩ _))⟩
  · have e : wgS s b = { s with tally := T } := by unfold wgS wgE wgT; rw [hT, if_neg h1, if_neg h2, if_neg (by omega)]
    rw [e]
    exact ⟨hp, hg⟩
set_option maxHeartbeats 1000000 in
theorem weigh_any (p : Nat) (s : Lp) (b : Bool) (w : World) (h : Po w p s) (hs : OkL s) : Calls Try.prog 51 #[.pointer (some ⟨p, 0, none⟩), .bool b] w fun e w' => e = .returned (.tuple #[]) ∧ Po w' p (wgS s b) ∧ w.grownBy w' (some p) := by
  have HP : Hid (Po w p s) := h
  have c8 : w.cell? ⟨p, 8, none⟩ = some (.int .i64 s.exp) := h.cell 8
  have c9 : w.cell? ⟨p, 9, none⟩ = some (.int .i64 s.tally) := h.cell 9
  have f9 : w.frozen? ⟨p, 9, none⟩ = false := h.frozen 9
  have e0 := hs.e0; have e1 := hs.e1; have t0 := hs.t0; have t1 := hs.t1
  obtain ⟨T, hT⟩ : ∃ T, tlI s b = T := ⟨_, rfl⟩
  have HT : Hid (tlI s b = T) := hT
  obtain ⟨u3, u4⟩ := wrapS (n := 2 * s.exp) rfl (by omega) (by omega)
  obtain ⟨A, hA⟩ : ∃ A, s.exp + 1 = A := ⟨_, rfl⟩
  obtain ⟨B, hB⟩ : ∃ B, s.exp - 1 = B := ⟨_, rfl⟩
  have HAB : Hid (s.exp + 1 = A ∧ s.exp - 1 = B) := ⟨hA, hB⟩
  obtain ⟨k1, k2⟩ := wrapS hA (by omega) (by omega)
  obtain ⟨k3, k4⟩ := wrapS hB (by omega) (by omega)
  have mn := run_mn
  have mx := run_mx
  clear h hs hA hB
  cases b
  · have eT : s.tally - 2 * s.exp = T := hT
    obtain ⟨u5, u6⟩ := wrapS eT (by omega) (by omega)
    clear hT eT e0 e1 t0 t1
    go_enter Try.func51, Try.ntmps51
    refine post_hid fun Q hQ => ?_
    go_wp2
    refine wp_region_lastW (by kernel_rfl) (by kernel_rfl) (by rfl) (by kernel_rfl) ?_
    simp only [idleLast, idle]
    repeat (refine qw_step (fun K hK => ?_); go_simp; (refine hK _ ?_; clear hK K))
    refine qw_nil ?_
    intro _ hw'
    obtain ⟨nq, hw''⟩ := hw'
    subst hw''
    refine wpOp_stL (cs := lpL s) _ (by rfl) rfl 3 _ _ rfl HP.out 9 (.int .i64 T) (by rfl) (by rfl) rfl (by kernel_rfl) (by simp [lpL]) rfl ?_
    intro W hp hg _
    have h1 : Po W p { s with tally := T } := hp
    have HW : Hid (Po W p { s with tally := T } ∧ w.grownBy W (some p)) := ⟨h1, grownBy_trans (grownBy_drewN w nq _) hg⟩
    have d8 : W.cell? ⟨p, 8, none⟩ = some (.int .i64 s.exp) := h1.cell 8
    have d9 : W.cell? ⟨p, 9, none⟩ = some (.int .i64 T) := h1.cell 9
    have g8 : W.frozen? ⟨p, 8, none⟩ = false := h1.frozen 8
    have g9 : W.frozen? ⟨p, 9, none⟩ = false := h1.frozen 9
    clear hp hg h1 c8 c9 f9 u3 u4 u5 u6
    by_cases a1 : 30 < T
    · go_wp2
      rw [hQ.out]
      go_end0
      exact ⟨rfl, wg_end HT.out HW.out.1 HW.out.2 (.inl ⟨a1, by rw [HAB.out.1]⟩)⟩
    by_cases a2 : T < -30
    · go_wp2
      rw [hQ.out]
      go_end0
      exact ⟨rfl, wg_end HT.out HW.out.1 HW.out.2 (.inr (.inl ⟨a2, by rw [HAB.out.2]⟩))⟩
    · go_wp2
      rw [hQ.out]
      go_end0
      exact ⟨rfl, wg_end HT.out HW.out.1 HW.out.2 (.inr (.inr ⟨by omega, by omega, rfl⟩))⟩
  · have eT : s.tally + s.exp = T := hT
    obtain ⟨u1, u2⟩ := wrapS eT (by omega) (by omega)
    clear u3 u4 hT eT e0 e1 t0 t1
    go_enter Try.func51, Try.ntmps51
    refine post_hid fun Q hQ => ?_
    go_wp2
    refine wp_region_lastW (by kernel_rfl) (by kernel_rfl) (by rfl) (by kernel_rfl) ?_
    simp only [idleLast, idle]
    repeat (refine qw_step (fun K hK => ?_); go_simp; (refine hK _ ?_; clear hK K))
    refine qw_nil ?_
    intro _ hw'
    obtain ⟨nq, hw''⟩ := hw'
    subst hw''
    refine wpOp_stL (cs := lpL s) _ (by rfl) rfl 3 _ _ rfl HP.out 9 (.int .i64 T) (by rfl) (by rfl) rfl (by kernel_rfl) (by simp [lpL]) rfl ?_
    intro W hp hg _
    have h1 : Po W p { s with tally := T } := hp
    have HW : Hid (Po W p { s with tally := T } ∧ w.grownBy W (some p)) := ⟨h1, grownBy_trans (grownBy_drewN w nq _) hg⟩
    have d8 : W.cell? ⟨p, 8, none⟩ = some (.int .i64 s.exp) := h1.cell 8
    have d9 : W.cell? ⟨p, 9, none⟩ = some (.int .i64 T) := h1.cell 9
    have g8 : W.frozen? ⟨p, 8, none⟩ = false := h1.frozen 8
    have g9 : W.frozen? ⟨p, 9, none⟩ = false := h1.frozen 9
    clear hp hg h1 c8 c9 f9 u1 u2
    by_cases a1 : 30 < T
    · go_wp2
      rw [hQ.out]
      go_end0
      exact ⟨rfl, wg_end HT.out HW.out.1 HW.out.2 (.inl ⟨a1, by rw [HAB.out.1]⟩)⟩
    by_cases a2 : T < -30
    · go_wp2
      rw [hQ.out]
      go_end0
      exact ⟨rfl, wg_end HT.out HW.out.1 HW.out.2 (.inr (.inl ⟨a2, by rw [HAB.out.2]⟩))⟩
    · go_wp2
      rw [hQ.out]
      go_end0
      exact ⟨rfl, wg_end HT.out HW.out.1 HW.out.2 (.inr (.inr ⟨by omega, by omega, rfl⟩))⟩
theorem Po.other {w w' : World} {p q : Nat} {s : Lp} (h : Po w p s) (hg : w.grownBy w' (some q)) (hne : p ≠ q) : Po w' p s := Bk.kept h (hg.block p (Bk.lt h) (fun e => hne (Option.some.inj e)))
theorem Rp.other {w w' : World} {p q : Nat} {s : Lp} (h : Rp w q s) (hg : w.grownBy w' (some p)) (hne : q ≠ p) : Rp w' q s := Bk.kept h (hg.block q (Bk.lt h) (fun e => hne (Option.some.inj e)))
theorem Po.below {w w' : World} {p B : Nat} {s : Lp} (h : Po w p s) (hb : Below B w w') (hp : p < B) : Po w' p s := Bk.kept h (hb.block p hp)
theorem Rp.below {w w' : World} {p B : Nat} {s : Lp} (h : Rp w p s) (hb : Below B w w') (hp : p < B) : Rp w' p s := Bk.kept h (hb.block p hp)
set_option maxHeartbeats 400000 in
theorem restart_any (p : Nat) (s : Lp) (n : Int) (w : World) (h : Po w p s) : Calls Try.prog 31 #[.pointer (some ⟨p, 0, none⟩), .int .i64 n] w fun e w' => e = .returned (.tuple #[]) ∧ Po w' p (resS s n) ∧ w.grownBy w' (some p) := by
  have HP : Hid (Po w p s) := h
  have f5 : w.frozen? ⟨p, 5, none⟩ = false := h.frozen 5
  have c5 : w.cell? ⟨p, 5, none⟩ = some (.int .i64 s.left) := h.cell 5
  clear h
  go_enter Try.func31, Try.ntmps31
  refine post_hid fun Q hQ => ?_
  go_wp2_with fail
  have h1 : Po (w.setCell ⟨p, 5, none⟩ (.int .i64 0)) p { s with left := 0 } := HP.out.set (j := 5) _
  refine (take_any p _ 0 n _ h1).mono ?_
  rintro e w1 ⟨rfl, h2, g2⟩
  have H2 : Hid (Po w1 p (tkS { s with left := 0 } 0 n) ∧ w.grownBy w1 (some p)) := ⟨h2, grownBy_trans (grownBy_set _ ⟨p, 5, none⟩ _) g2⟩
  have d3 : w1.cell? ⟨p, 3, none⟩ = some (.int .i64 s.st) := h2.cell 3
  have d8 : w1.cell? ⟨p, 8, none⟩ = some (.int .i64 s.exp) := h2.cell 8
  have d9 : w1.cell? ⟨p, 9, none⟩ = some (.int .i64 s.tally) := h2.cell 9
  have i3 : w1.frozen? ⟨p, 3, none⟩ = false := h2.frozen 3
  have i8 : w1.frozen? ⟨p, 8, none⟩ = false := h2.frozen 8
  have i9 : w1.frozen? ⟨p, 9, none⟩ = false := h2.frozen 9
  clear h1 h2 g2 f5 c5
  have HZ : Hid (∀ z, Po (((w1.setCell ⟨p, 8, none⟩ (.int .i64 3)).setCell ⟨p, 9, none⟩ (.int .i64 0)).setCell ⟨p, 3, none⟩ (.int .i64 z)) p ⟨s.most, s.panics, s.stepout, z, s.rate, 0, 0, n, 3, 0⟩ ∧ w.grownBy (((w1.setCell ⟨p, 8, none⟩ (.int .i64 3)).setCell ⟨p, 9, none⟩ (.int .i64 0)).setCell ⟨p, 3, none⟩ (.int .i64 z)) (some p)) := fun z =>
    ⟨((H2.out.1.set (j := 8) (.int .i64 3)).set (j := 9) (.int .i64 0)).set (j := 3) (.int .i64 z), grownBy_trans H2.out.2 (grownBy_trans (grownBy_trans (grownBy_set _ ⟨p, 8, none⟩ _) (grownBy_set _ ⟨p, 9, none⟩ _)) (grownBy_set _ ⟨p, 3, none⟩ _))⟩
  by_cases hz : s.st = 0
  · have E : Hid (resS s n = ⟨s.most, s.panics, s.stepout, 3, s.rate, 0, 0, n, 3, 0⟩) := by show _ = _; unfold resS; rw [if_pos hz]
    rw [hz] at d3
    go_wp2_with fail
    rw [hQ.out]
    go_end0
    rw [E.out]
    exact ⟨rfl, HZ.out 3⟩
  · have E : Hid (resS s n = ⟨s.most, s.panics, s.stepout, 4, s.rate, 0, 0, n, 3, 0⟩) := by show _ = _; unfold resS; rw [if_neg hz]
    have hz2 : (s.st == 0) = false := by simpa using hz
    go_wp2_with fail
    rw [hQ.out]
    go_end0
    rw [E.out]
    exact ⟨rfl, HZ.out 4⟩
set_option maxHeartbeats 400000 in
theorem follow_any (p : Nat) (s : Lp) (o j n : Int) (w : World) (h : Po w p s) (hs : OkL s) (ho : -4611686018427387904 ≤ o ∧ o ≤ 4611686018427387904) (hj : -9223372036854775808 ≤ j ∧ j ≤ 9223372036854775807) (hn : 0 ≤ n ∧ n ≤ 1073741824) : Calls Try.prog 30 #[.pointer (some ⟨p, 0, none⟩), .int .i64 o, .int .i64 j, .int .i64 n] w fun e w' => e = .returned (.tuple #[]) ∧ Po w' p (folS s o j n) ∧ w.grownBy w' (some p) := by
  have HP : Hid (Po w p s ∧ OkL { s with left := o, base := o, wn := n, st := 4 }) := ⟨h, hs.fol0 o n ho hn⟩
  have f5 : w.frozen? ⟨p, 5, none⟩ = false := h.frozen 5
  have c5 : w.cell? ⟨p, 5, none⟩ = some (.int .i64 s.left) := h.cell 5
  obtain ⟨Z, hZ⟩ : ∃ Z, szS o = Z := ⟨_, rfl⟩
  obtain ⟨J, hJ⟩ : ∃ J, Fx.sh j 2 = J := ⟨_, rfl⟩
  have K : Hid ((∀ u, Calls Try.prog 26 #[.int .i64 o] u fun e w' => e = .returned (.int .i64 Z) ∧ w' = u) ∧ (∀ u, Calls Try.prog 23 #[.int .i64 j, .int .i64 2] u fun e w' => e = .returned (.int .i64 J) ∧ w' = u)) :=
    ⟨fun u => by rw [← hZ]; exact abs_any _ _ (by omega) (by omega), fun u => by rw [← hJ]; exact shift_any _ _ _ (by omega) (by omega)⟩
  have HE : Hid (wgS { s with left := o, base := o, wn := n, st := 4 } (decide (Z < J)) = folS s o j n) := by show _ = _; unfold folS; rw [hZ, hJ]
  clear h hs ho hj hn hZ hJ
  go_enter Try.func30, Try.ntmps30
  refine post_hid fun Q hQ => ?_
  go_wp2_with fail
  have h1 : Po (w.setCell ⟨p, 5, none⟩ (.int .i64 o)) p { s with left := o } := HP.out.1.set (j := 5) _
  refine (take_any p _ o n _ h1).mono ?_
  rintro e w1 ⟨rfl, h2, g2⟩
  have H2 : Hid (Po w1 p (tkS { s with left := o } o n) ∧ w.grownBy w1 (some p)) := ⟨h2, grownBy_trans (grownBy_set _ ⟨p, 5, none⟩ _) g2⟩
  have d3 : w1.cell? ⟨p, 3, none⟩ = some (.int .i64 s.st) := h2.cell 3
  have i3 : w1.frozen? ⟨p, 3, none⟩ = false := h2.frozen 3
  clear h1 h2 g2 f5 c5
  have H3 : Hid (Po (w1.setCell ⟨p, 3, none⟩ (.int .i64 4)) p { s with left := o, base := o, wn := n, st := 4 } ∧ w.grownBy (w1.setCell ⟨p, 3, none⟩ (.int .i64 4)) (some p)) := ⟨H2.out.1.set (j := 3) _, grownBy_trans H2.out.2 (grownBy_set _ ⟨p, 3, none⟩ _)⟩
  go_wp2_with (first
    | (go_at_call 26; refine (K.out.1 _).mono ?_; rintro e w' ⟨rfl, hw⟩; rw [hw]; clear hw)
    | (go_at_call 23; refine (K.out.2 _).mono ?_; rintro e w' ⟨rfl, hw⟩; rw [hw]; clear hw)
    | (go_at_call 51; refine (weigh_any p _ _ _ H3.out.1 HP.out.2).mono ?_; rintro e w3 ⟨rfl, h5, h6⟩))
  rw [hQ.out]
  go_end0
  refine ⟨rfl, ?_, grownBy_trans H3.out.2 h6⟩
  rw [← HE.out]
  exact h5
set_option maxHeartbeats 400000 in
theorem tick_any (p : Nat) (s : Lp) (w : World) (h : Po w p s) (hs : OkL s) : Calls Try.prog 10 #[.pointer (some ⟨p, 0, none⟩)] w fun e w' => e = .returned (.int .i64 (tkX s)) ∧ Po w' p (ticS s) ∧ w.grownBy w' (some p) := by
  have HP : Hid (Po w p s) := h
  have f5 : w.frozen? ⟨p, 5, none⟩ = false := h.frozen 5
  have c5 : w.cell? ⟨p, 5, none⟩ = some (.int .i64 s.left) := h.cell 5
  have c8 : w.cell? ⟨p, 8, none⟩ = some (.int .i64 s.exp) := h.cell 8
  have hb := tk_bd hs
  have e0 := hs.e0; have e1 := hs.e1; have l0 := hs.l0; have l1 := hs.l1
  obtain ⟨X, hX⟩ : ∃ X, tkX s = X := ⟨_, rfl⟩
  rw [hX] at hb
  obtain ⟨A, hA⟩ : ∃ A, s.exp + 2 = A := ⟨_, rfl⟩
  obtain ⟨B, hB⟩ : ∃ B, -A = B := ⟨_, rfl⟩
  obtain ⟨L, hL⟩ : ∃ L, s.left - X = L := ⟨_, rfl⟩
  obtain ⟨k1, k2⟩ := wrapS hA (by omega) (by omega)
  obtain ⟨k3, k4⟩ := wrapS hB (by omega) (by omega)
  obtain ⟨k5, k6⟩ := wrapS hL (by omega) (by omega)
  have HK : Hid (∀ u, Calls Try.prog 23 #[.int .i64 s.left, .int .i64 B] u fun e w' => e = .returned (.int .i64 X) ∧ w' = u) := fun u => by
    rw [← hX, ← hB, ← hA]; exact shift_any _ _ _ (by omega) (by omega)
  have HE : Hid (ticS s = { s with left := L } ∧ tkX s = X) := by refine ⟨?_, hX⟩; rw [← hL, ← hX]; rfl
  clear h hs hb e0 e1 l0 l1 hX hA hB hL
  rw [HE.out.2]
  go_enter Try.func10, Try.ntmps10
  refine post_hid fun Q hQ => ?_
  go_wp2
  go_quiet ((go_at_call 23; exact Calls.quiet_of_same (HK.out _)))
  go_wp2
  rw [hQ.out]
  go_ret
  refine ⟨rfl, ?_, grownBy_trans (grownBy_drewN _ _ _) (grownBy_set _ ⟨p, 5, none⟩ _)⟩
  rw [HE.out.1]
  exact (HP.out.drewN _).set (j := 5) _
end Go.Proofs.Ytbagfnafkpbanaa
