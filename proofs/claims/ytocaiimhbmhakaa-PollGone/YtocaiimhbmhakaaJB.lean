/- The program's functions that write. -/
import Derived.Test.YtocaiimhbmhakaaJA
namespace Go.Proofs.Ytocaiimhbmhakaa
open Go Go.RowKit Go.Sort
theorem wait_any (p : Nat) (s : Pl) (now : Int) (w : World) (h : Po w p s) (hs : 0 ≤ s.exp ∧ s.exp ≤ 10) : Calls Try.prog 26 #[.pointer (some ⟨p, 0, none⟩), .int .i64 now] w fun e w' => e = .returned (.tuple #[]) ∧ Po w' p (waitS s now) ∧ w.grownBy w' (some p) := by
  have HP : Hid (Po w p s) := h
  have c4 : w.cell? ⟨p, 4, none⟩ = some (.int .i64 s.exp) := h.cell 4
  have c7 : w.cell? ⟨p, 7, none⟩ = some (.int .i64 s.left) := h.cell 7
  have c8 : w.cell? ⟨p, 8, none⟩ = some (.int .i64 s.next) := h.cell 8
  have f8 : w.frozen? ⟨p, 8, none⟩ = false := h.frozen 8
  obtain ⟨e0, e1⟩ := hs
  clear h
  go_enter Try.func26, Try.ntmps26
  go_wp2_with (go_at_call 21; refine (counted_any _ _).mono ?_; rintro e w' ⟨rfl, rfl⟩)
  all_goals
    rename_i hl
    have b1 := ck_bd now
    have b2 := pw_bd s.exp e1
    go_end0
    refine ⟨rfl, ?_, grownBy_set _ ⟨p, 8, none⟩ _⟩
    have q := HP.out.set (j := 8) (.int .i64 (waitS s now).next)
    have e : (waitS s now).next = ck now + if 0 < s.left then 2 else pw s.exp := rfl
  · rw [e, if_pos hl] at q
    rw [w64 _ (by omega) (by omega)]
    unfold Po waitS
    rw [if_pos hl]
    exact q
  · rw [e, if_neg (by omega)] at q
    unfold Po waitS
    rw [if_neg (by omega)]
    show Bk _ (World.setCell _ _ (.int .i64 (wrap64 (ck now + wrap64 (pw s.exp))))) _ _
    rw [w64 (pw s.exp) (by omega) (by omega), w64 _ (by omega) (by omega)]
    exact q
theorem pace_any (p : Nat) (s : Pl) (sys : Int) (w : World) (h : Po w p s) (h1 : 0 ≤ s.least ∧ s.most ≤ 10 ∧ s.least ≤ s.most) (h2 : 0 ≤ s.gone ∧ s.gone ≤ 100) : Calls Try.prog 24 #[.pointer (some ⟨p, 0, none⟩), .int .i64 sys] w fun e w' => e = .returned (.int .i64 (min (min (max sys s.least) s.most + max (s.gone - 12) 0) s.most)) ∧ ∃ m, w' = w.drewN m := by
  have c0 : w.cell? ⟨p, 0, none⟩ = some (.int .i64 s.least) := h.cell 0
  have c1 : w.cell? ⟨p, 1, none⟩ = some (.int .i64 s.most) := h.cell 1
  have c6 : w.cell? ⟨p, 6, none⟩ = some (.int .i64 s.gone) := h.cell 6
  have mx := run_mx
  have mn := run_mn
  have k1 : wrap64 (s.gone - 12) = s.gone - 12 := w64 _ (by omega) (by omega)
  have k2 : wrap64 (min (max sys s.least) s.most + max (s.gone - 12) 0) = min (max sys s.least) s.most + max (s.gone - 12) 0 := w64 _ (by omega) (by omega)
  clear h h1 h2
  go_enter Try.func24, Try.ntmps24
  go_wp2
  go_quiet (fail)
  go_wp2
  go_quiet (fail)
  go_wp2
  go_ret
  simp only [World.drewN_drewN]
  exact ⟨rfl, _, rfl⟩
theorem questions_any (p : Nat) (s : Pl) (w : World) (h : Po w p s) : Calls Try.prog 25 #[.pointer (some ⟨p, 0, none⟩)] w fun e w' => e = .returned (.int .i64 (if (if s.reach = 0 then s.ib else s.burst) = true ∧ s.gone ≤ 12 then 6 else 1)) ∧ w' = w := by
  have c2 : w.cell? ⟨p, 2, none⟩ = some (.bool s.burst) := h.cell 2
  have c3 : w.cell? ⟨p, 3, none⟩ = some (.bool s.ib) := h.cell 3
  have c5 : w.cell? ⟨p, 5, none⟩ = some (.int .u8 s.reach) := h.cell 5
  have c6 : w.cell? ⟨p, 6, none⟩ = some (.int .i64 s.gone) := h.cell 6
  clear h
  go_enter Try.func25, Try.ntmps25
  go_wp2
  all_goals
    go_ret
    exact ⟨ret_int' (by simp_all), rfl⟩
theorem or_one (r : Int) (h0 : 0 ≤ r) (h1 : r < 256) : bits .or .u8 r 1 = r + (1 - r % 2) := by
  obtain ⟨n, rfl⟩ : ∃ n : Nat, r = n := ⟨r.toNat, by omega⟩
  have h : ∀ n : Nat, n < 256 → bits .or .u8 (n : Int) 1 = (n : Int) + (1 - (n : Int) % 2) := by set_option maxRecDepth 20000 in decide
  exact h n (by omega)
theorem heard_any (p : Nat) (s : Pl) (now : Int) (w : World) (h : Po w p s) (hs : 0 ≤ s.reach ∧ s.reach < 256) : Calls Try.prog 16 #[.pointer (some ⟨p, 0, none⟩), .int .i64 now] w fun e w' => e = .returned (.tuple #[]) ∧ Po w' p (heardS s) ∧ w.grownBy w' (some p) := by
  have HP : Hid (Po w p s) := h
  have c5 : w.cell? ⟨p, 5, none⟩ = some (.int .u8 s.reach) := h.cell 5
  have c6 : w.cell? ⟨p, 6, none⟩ = some (.int .i64 s.gone) := h.cell 6
  have f5 : w.frozen? ⟨p, 5, none⟩ = false := h.frozen 5
  have f6 : w.frozen? ⟨p, 6, none⟩ = false := h.frozen 6
  obtain ⟨r0, r1⟩ := hs
  clear h
  go_enter Try.func16, Try.ntmps16
  go_wp2
  go_end0
  refine ⟨rfl, ?_, grownBy_trans (grownBy_set _ ⟨p, 5, none⟩ _) (grownBy_set _ ⟨p, 6, none⟩ _)⟩
  rw [or_one _ r0 r1]
  exact (HP.out.set (j := 5) _).set (j := 6) _
theorem kissed_any (p : Nat) (s : Pl) (now x : Int) (w : World) (h : Po w p s) (hs : OkL s) : Calls Try.prog 14 #[.pointer (some ⟨p, 0, none⟩), .int .i64 now, .int .i64 x] w fun e w' => e = .returned (.tuple #[]) ∧ Po w' p (kissS s now x) ∧ w.grownBy w' (some p) := by
  have HP : Hid (Po w p s) := h
  have c0 : w.cell? ⟨p, 0, none⟩ = some (.int .i64 s.least) := h.cell 0
  have c1 : w.cell? ⟨p, 1, none⟩ = some (.int .i64 s.most) := h.cell 1
  have c4 : w.cell? ⟨p, 4, none⟩ = some (.int .i64 s.exp) := h.cell 4
  have c7 : w.cell? ⟨p, 7, none⟩ = some (.int .i64 s.left) := h.cell 7
  have f : ∀ j, w.frozen? ⟨p, j, none⟩ = false := h.frozen
  have f0 := f 0
  have f4 := f 4
  have f7 := f 7
  have mx := run_mx3
  have mn := run_mn
  obtain ⟨E, hE⟩ : ∃ E, max s.exp (max (min x s.most) s.least) = E := ⟨_, rfl⟩
  have HE : Hid (kiE s x = E ∧ 0 ≤ E ∧ E ≤ 10) := by
    refine ⟨hE, ?_⟩
    obtain ⟨h1, h2, h3, h4, h5, h6, h7, h8, h9, h10⟩ := hs
    omega
  have m1 : ∀ u, (Builtin.max_ #[3, 3, 3] 3 #[.int .i64 s.exp, .int .i64 (min x s.most), .int .i64 s.least]).run Try.prog u = .ok (.int .i64 E) u := fun u => by rw [run_mx3, hE]
  clear h hs f hE mx
  go_enter Try.func14, Try.ntmps14
  refine post_hid fun Q hQ => ?_
  go_wp2
  refine wp_region_lastW (by kernel_rfl) (by kernel_rfl) (by rfl) (by kernel_rfl) ?_
  simp only [idleLast, idle]
  repeat (refine qw_step (fun K hK => ?_); go_simp; (refine hK _ ?_; clear hK K))
  refine qw_nil ?_
  intro _ hw'
  obtain ⟨nq, hw''⟩ := hw'
  subst hw''
  refine wpOp_stL (cs := plL s) _ (by rfl) rfl 3 _ _ rfl HP.out 4 (.int .i64 E) (by rfl) (by rfl) rfl (by kernel_rfl) (by simp [plL]) rfl ?_
  intro W hp hg _
  have h1 : Po W p { s with exp := E } := hp
  have HW : Hid (Po W p { s with exp := E } ∧ w.grownBy W (some p)) := ⟨h1, grownBy_trans (grownBy_drewN w nq _) hg⟩
  have d4 : W.cell? ⟨p, 4, none⟩ = some (.int .i64 E) := h1.cell 4
  have d0 : W.cell? ⟨p, 0, none⟩ = some (.int .i64 s.least) := h1.cell 0
  have d7 : W.cell? ⟨p, 7, none⟩ = some (.int .i64 s.left) := h1.cell 7
  have g0 : W.frozen? ⟨p, 0, none⟩ = false := h1.frozen 0
  have g7 : W.frozen? ⟨p, 7, none⟩ = false := h1.frozen 7
  clear hp hg h1 c0 c1 c4 c7 f0 f4 f7 mn m1
  go_wp2_with fail
  have h2 : Po ((W.setCell ⟨p, 0, none⟩ (.int .i64 E)).setCell ⟨p, 7, none⟩ (.int .i64 0)) p { s with exp := E, least := E, left := 0 } := (HW.out.1.set (j := 0) (.int .i64 E)).set (j := 7) (.int .i64 0)
  refine (wait_any p _ now _ h2 HE.out.2).mono ?_
  rintro e w' ⟨rfl, h3, h4⟩
  go_wp2_with fail
  rw [hQ.out]
  go_end0
  refine ⟨rfl, ?_, grownBy_trans (grownBy_trans HW.out.2 (grownBy_trans (grownBy_set _ ⟨p, 0, none⟩ _) (grownBy_set _ ⟨p, 7, none⟩ _))) h4⟩
  unfold kissS
  rw [HE.out.1]
  exact h3
end Go.Proofs.Ytocaiimhbmhakaa
