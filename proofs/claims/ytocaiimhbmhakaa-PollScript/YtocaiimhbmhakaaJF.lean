/- The reference: Kissed. -/
import Derived.Test.YtocaiimhbmhakaaJE
namespace Go.Proofs.Ytocaiimhbmhakaa
open Go Go.RowKit Go.Sort
set_option maxHeartbeats 1000000 in
theorem rkissed_any (q : Nat) (a : As) (s : Pl) (now x : Int) (w : World) (h : Rp w q a s) (hs : OkL s) : Calls Try.prog 29 #[.pointer (some ⟨q, 0, none⟩), .int .i64 now, .int .i64 x] w fun e w' => e = .returned (.tuple #[]) ∧ Rp w' q a (kissS s now x) ∧ w.grownBy w' (some q) := by
  have H0 : Hid (Rp w q a s ∧ w.grownBy w (some q)) := ⟨h, rfl, rfl, rfl, Nat.le_refl _, fun _ _ _ => rfl⟩
  have mx := run_mx
  have mn := run_mn
  obtain ⟨E0, hE0⟩ : ∃ E, max s.exp (min x s.most) = E := ⟨_, rfl⟩
  obtain ⟨E, hE⟩ : ∃ E, max E0 s.least = E := ⟨_, rfl⟩
  have HE : Hid (kiE s x = E ∧ 0 ≤ E ∧ E ≤ 10) := by
    unfold kiE
    obtain ⟨h1, h2, h3, h4, h5, h6, h7, h8, h9, h10⟩ := hs
    refine ⟨?_, ?_⟩ <;> omega
  obtain ⟨P, hP⟩ : ∃ P, pw E = P := ⟨_, rfl⟩
  obtain ⟨C, hC⟩ : ∃ C, ck now = C := ⟨_, rfl⟩
  have HPw : Hid (∀ u, Calls Try.prog 23 #[.int .i64 E] u fun e w' => e = .returned (.int .i64 P) ∧ w' = u) := fun u => by rw [← hP]; exact power_any E u HE.out.2.1 HE.out.2.2
  have HCk : Hid (∀ u, Calls Try.prog 22 #[.int .i64 now] u fun e w' => e = .returned (.int .i64 C) ∧ w' = u) := fun u => by rw [← hC]; exact clock_any now u
  have HN : Hid (ck now + pw E = C + P) := by show _ = _; rw [hC, hP]
  have kN : wrap64 (C + P) = C + P := w64 _ (by have := ck_bd now; have := pw_bd E HE.out.2.2; omega) (by have := ck_bd now; have := pw_bd E HE.out.2.2; omega)
  have kN' : IntKind.i64.wrap (C + P) = C + P := by rw [IntWalk.i64_left]; exact kN
  have m1 : ∀ u, (Builtin.max_ #[3, 3] 3 #[.int .i64 s.exp, .int .i64 (min x s.most)]).run Try.prog u = .ok (.int .i64 E0) u := fun u => by rw [run_mx, hE0]
  have m2 : ∀ u, (Builtin.max_ #[3, 3] 3 #[.int .i64 E0, .int .i64 s.least]).run Try.prog u = .ok (.int .i64 E) u := fun u => by rw [run_mx, hE]
  have c3 : w.cell? ⟨q, 3, none⟩ = some (.int .i64 s.least) := H0.out.1.cell 3
  have c4 : w.cell? ⟨q, 4, none⟩ = some (.int .i64 s.most) := H0.out.1.cell 4
  have c12 : w.cell? ⟨q, 12, none⟩ = some (.int .i64 s.exp) := H0.out.1.cell 12
  have f12 : w.frozen? ⟨q, 12, none⟩ = false := H0.out.1.frozen 12
  clear h hs hE hE0 mx hP hC
  go_enter Try.func29, Try.ntmps29
  refine post_hid fun Q hQ => ?_
  refine seq_hid fun R hR => ?_
  go_wp2_with fail
  refine wp_region_lastW (by kernel_rfl) (by kernel_rfl) (by rfl) (by kernel_rfl) ?_
  simp only [idleLast, idle]
  repeat (refine qw_step (fun K hK => ?_); go_simp; first | (refine hK _ ?_; clear hK K))
  refine qw_nil ?_
  intro _ hw'
  obtain ⟨nW1, hw''⟩ := hw'
  subst hw''
  refine wpOp_stL (cs := rpL a s) _ (by rfl) rfl 3 _ _ rfl H0.out.1 12 (.int .i64 E0) (by rfl) (by rfl) rfl (by kernel_rfl) (by simp [rpL]) rfl ?_
  intro W1 hp hg _
  have HW1 : Hid (Rp W1 q a { s with exp := E0 } ∧ w.grownBy W1 (some q)) := ⟨hp, grownBy_trans (grownBy_trans H0.out.2 (grownBy_drewN _ nW1 _)) hg⟩
  clear hp hg
  clear c3 c4 c12 f12 m1 mn
  have c3 : W1.cell? ⟨q, 3, none⟩ = some (.int .i64 s.least) := HW1.out.1.cell 3
  have c12 : W1.cell? ⟨q, 12, none⟩ = some (.int .i64 E0) := HW1.out.1.cell 12
  have f12 : W1.frozen? ⟨q, 12, none⟩ = false := HW1.out.1.frozen 12
  go_wp2_with fail
  rw [hR.out]
  clear hR
  refine seq_hid fun R hR => ?_
  go_wp2_with fail
  refine wp_region_lastW (by kernel_rfl) (by kernel_rfl) (by rfl) (by kernel_rfl) ?_
  simp only [idleLast, idle]
  repeat (refine qw_step (fun K hK => ?_); go_simp; first | (refine hK _ ?_; clear hK K))
  refine qw_nil ?_
  intro _ hw'
  obtain ⟨nW2, hw''⟩ := hw'
  subst hw''
  refine wpOp_stL (cs := rpL a { s with exp := E0 }) _ (by rfl) rfl 3 _ _ rfl HW1.out.1 12 (.int .i64 E) (by rfl) (by rfl) rfl (by kernel_rfl) (by simp [rpL]) rfl ?_
  intro W2 hp hg _
  have HW2 : Hid (Rp W2 q a { s with exp := E } ∧ w.grownBy W2 (some q)) := ⟨hp, grownBy_trans (grownBy_trans HW1.out.2 (grownBy_drewN _ nW2 _)) hg⟩
  clear hp hg
  clear c3 c12 f12 m2
  have c3 : W2.cell? ⟨q, 3, none⟩ = some (.int .i64 s.least) := HW2.out.1.cell 3
  have c12 : W2.cell? ⟨q, 12, none⟩ = some (.int .i64 E) := HW2.out.1.cell 12
  have c16 : W2.cell? ⟨q, 16, none⟩ = some (.int .i64 s.left) := HW2.out.1.cell 16
  have c15 : W2.cell? ⟨q, 15, none⟩ = some (.int .i64 s.next) := HW2.out.1.cell 15
  have f3 : W2.frozen? ⟨q, 3, none⟩ = false := HW2.out.1.frozen 3
  have f16 : W2.frozen? ⟨q, 16, none⟩ = false := HW2.out.1.frozen 16
  go_wp2_with fail
  rw [hR.out]
  clear hR
  go_wp2_with fail
  have HW3 : Hid (Rp ((W2.setCell ⟨q, 3, none⟩ (.int .i64 E)).setCell ⟨q, 16, none⟩ (.int .i64 0)) q a { s with exp := E, least := E, left := 0 } ∧ w.grownBy ((W2.setCell ⟨q, 3, none⟩ (.int .i64 E)).setCell ⟨q, 16, none⟩ (.int .i64 0)) (some q)) := ⟨(HW2.out.1.set (j := 3) (.int .i64 E)).set (j := 16) (.int .i64 0), grownBy_trans HW2.out.2 (grownBy_trans (grownBy_set _ ⟨q, 3, none⟩ _) (grownBy_set _ ⟨q, 16, none⟩ _))⟩
  refine wp_region_lastW (by kernel_rfl) (by kernel_rfl) (by rfl) (by kernel_rfl) ?_
  simp only [idleLast, idle]
  repeat (refine qw_step (fun K hK => ?_); go_simp; first | (refine hK _ ?_; clear hK K) | (apply Exists.intro; refine ⟨fun _ => ?_, hK _ ?_⟩; (go_at_call 22; exact Calls.quiet_of_same (HCk.out _)); clear hK K) | (apply Exists.intro; refine ⟨fun _ => ?_, hK _ ?_⟩; (go_at_call 23; exact Calls.quiet_of_same (HPw.out _)); clear hK K))
  refine qw_nil ?_
  intro _ hw'
  obtain ⟨nW4, hw''⟩ := hw'
  subst hw''
  refine wpOp_stL (cs := rpL a { s with exp := E, least := E, left := 0 }) _ (by rfl) rfl 3 _ _ rfl HW3.out.1 15 (.int .i64 (C + P)) (by rfl) (by rfl) rfl (by kernel_rfl) (by simp [rpL]) rfl ?_
  intro W4 hp hg _
  have HW4 : Hid (Rp W4 q a { s with exp := E, least := E, left := 0, next := C + P } ∧ w.grownBy W4 (some q)) := ⟨hp, grownBy_trans (grownBy_trans HW3.out.2 (grownBy_drewN _ nW4 _)) hg⟩
  clear hp hg
  go_wp2_with fail
  rw [hQ.out]
  go_end0
  refine ⟨rfl, ?_, HW4.out.2⟩
  have e : kissS s now x = { s with exp := E, least := E, left := 0, next := C + P } := by
    unfold kissS waitS
    rw [HE.out.1, ← HN.out]
    rfl
  rw [e]
  exact HW4.out.1
end Go.Proofs.Ytocaiimhbmhakaa
