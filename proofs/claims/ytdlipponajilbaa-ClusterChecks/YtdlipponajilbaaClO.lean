/- cluster: a candidate is rated; one that is followed alone. -/
import Derived.Test.YtdlipponajilbaaClN
namespace Go.Proofs.Ytdlipponajilbaa
open Go Go.RowKit Go.Sort Go.Proofs
set_option linter.unusedVariables false
set_option maxHeartbeats 1000000 in
set_option maxRecDepth 20000 in
theorem rate_any (c : Cn) (w : World) (ok : okC c) : Calls Try.prog 38 #[.agg (cnL c).toArray] w fun e w' => e = .returned (.agg (rtL (rt c)).toArray) ∧ Below w.heap.size w w' := by
  obtain ⟨Sv, hSv⟩ : ∃ Sv, scl 6442450944 c.s 1 = Sv := ⟨_, rfl⟩
  obtain ⟨M, hM⟩ : ∃ M, mer c = M := ⟨_, rfl⟩
  have HSc : Hid (∀ u, Calls Try.prog 24 #[.int .i64 6442450944, .int .i64 c.s, .int .i64 1] u fun e w' => e = .returned (.int .i64 Sv) ∧ ∃ n, w' = u.drewN n) := fun u => by
    rw [← hSv]; exact scale_any 6442450944 c.s 1 u (by decide) (by decide) ok.s.1 ok.s.2 (by decide)
  have HAd : Hid (∀ u, Calls Try.prog 23 #[.int .i64 c.d, .int .i64 Sv] u fun e w' => e = .returned (.int .i64 M) ∧ w' = u) := fun u => by
    have hb := scl_bd 6442450944 c.s 1
    unfold bd62 at hb
    have := add_any c.d Sv u ok.d.1 ok.d.2 (by omega) (by omega)
    have e : Fx.cl 4611686018427387904 (c.d + Sv) = M := by rw [← hM, ← hSv]; rfl
    rw [e] at this
    exact this
  have HE : Hid ((rtL (rt c)).toArray = #[.int .i64 c.id, .int .i64 c.o, .int .i64 c.d, .int .i64 c.j, .int .i64 c.s, .bool c.pf, .bool c.pu, .int .i64 M]) := by show _ = _; rw [← hM]; rfl
  clear hSv hM ok
  obtain ⟨a0, a1, a2, a3, a4, a5, a6⟩ := c
  rw [cn_cells]
  simp only at HSc HAd HE ⊢
  go_enter Try.func38, Try.ntmps38
  go_wp2
  obtain ⟨W, hW⟩ : ∃ W, W = (w.alloc (.cells #[.int .i64 a0, .int .i64 a1, .int .i64 a2, .int .i64 a3, .int .i64 a4, .bool a5, .bool a6] 27)).alloc (.cells #[.int .i64 0, .int .i64 0, .int .i64 0, .int .i64 0, .int .i64 0, .bool false, .bool false, .int .i64 0] 55) := ⟨_, rfl⟩
  rw [← hW]
  have d0 : W.cell? ⟨w.heap.size, 0, none⟩ = some (.int .i64 a0) := by rw [hW]; simp
  have d1 : W.cell? ⟨w.heap.size, 1, none⟩ = some (.int .i64 a1) := by rw [hW]; simp
  have d2 : W.cell? ⟨w.heap.size, 2, none⟩ = some (.int .i64 a2) := by rw [hW]; simp
  have d3 : W.cell? ⟨w.heap.size, 3, none⟩ = some (.int .i64 a3) := by rw [hW]; simp
  have d4 : W.cell? ⟨w.heap.size, 4, none⟩ = some (.int .i64 a4) := by rw [hW]; simp
  have d5 : W.cell? ⟨w.heap.size, 5, none⟩ = some (.bool a5) := by rw [hW]; simp
  have d6 : W.cell? ⟨w.heap.size, 6, none⟩ = some (.bool a6) := by rw [hW]; simp
  have HZ : Hid (W.heap[w.heap.size + 1]? = some (.cells #[.int .i64 0, .int .i64 0, .int .i64 0, .int .i64 0, .int .i64 0, .bool false, .bool false, .int .i64 0] 55 (0, 0))) := by rw [hW]; have := alloc_at (w.alloc (.cells #[.int .i64 a0, .int .i64 a1, .int .i64 a2, .int .i64 a3, .int .i64 a4, .bool a5, .bool a6] 27)) (.cells #[.int .i64 0, .int .i64 0, .int .i64 0, .int .i64 0, .int .i64 0, .bool false, .bool false, .int .i64 0] 55); rw [size_alloc1] at this; exact this
  have HB : Hid (Below w.heap.size w W) := by rw [hW]; exact ((Below.refl _ _).alloc (Nat.le_refl _) _).alloc (by simp) _
  have aE := Try.isAgg27
  have zE := Try.sizeOf27
  clear hW
  refine wp_region_last (by kernel_rfl) (by kernel_rfl) (by rfl) (by kernel_rfl) ?_
  simp only [idleLast, idle]
  repeat (quiet_step ((first | (go_at_call 24; exact Calls.quiet_of (HSc.out _)) | (go_at_call 23; exact Calls.quiet_of_same (HAd.out _)))))
  refine wpQuiet_nil ?_
  intro _ hw'
  obtain ⟨nq, hw''⟩ := hw'
  subst hw''
  refine wpOp_st (g := w.heap.size + 1) (T := 55) _ (by rfl) rfl _ _ rfl #[.int .i64 a0, .int .i64 a1, .int .i64 a2, .int .i64 a3, .int .i64 a4, .bool a5, .bool a6, .int .i64 M] (by rfl) (by rfl) _ HZ.out (by kernel_rfl) (by rfl) (by kernel_rfl) ?_
  have hB2 : Below w.heap.size w ((W.drewN nq).setRow (w.heap.size + 1) #[.int .i64 a0, .int .i64 a1, .int .i64 a2, .int .i64 a3, .int .i64 a4, .bool a5, .bool a6, .int .i64 M]) := below_row (below_dr HB.out nq) (Nat.le_succ _) _
  have hR2 : ((W.drewN nq).setRow (w.heap.size + 1) #[.int .i64 a0, .int .i64 a1, .int .i64 a2, .int .i64 a3, .int .i64 a4, .bool a5, .bool a6, .int .i64 M]).heap[w.heap.size + 1]? = some (.cells #[.int .i64 a0, .int .i64 a1, .int .i64 a2, .int .i64 a3, .int .i64 a4, .bool a5, .bool a6, .int .i64 M] 55 (0, 0)) := setRow_heap (W.drewN nq) _ _ _ _ _ HZ.out
  generalize (W.drewN nq).setRow (w.heap.size + 1) #[.int .i64 a0, .int .i64 a1, .int .i64 a2, .int .i64 a3, .int .i64 a4, .bool a5, .bool a6, .int .i64 M] = W2 at *
  repeat (first | go_values | go_skip | go_guarded | go_step | go_upon)
  exact bodyPost_ret (v := .agg #[.int .i64 a0, .int .i64 a1, .int .i64 a2, .int .i64 a3, .int .i64 a4, .bool a5, .bool a6, .int .i64 M]) (results_cell_row Try.results38 _ _ (w.heap.size + 1) _ _ (0, 0) _ (by rfl) hR2 Try.underlying55 rfl (by kernel_rfl)) rfl ⟨by rw [HE.out], hB2⟩
def rsL (r : Rs4) : List Value := [.int .i64 r.p, .int .i64 r.o, .int .i64 r.j, .bool r.ok, .bool r.pu]
set_option maxHeartbeats 1000000 in
set_option maxRecDepth 20000 in
theorem alone_any (c : Cn) (w : World) : Calls Try.prog 36 #[.agg (cnL c).toArray] w fun e w' => e = .returned (.agg (rsL (alo c false)).toArray) ∧ Below w.heap.size w w' := by
  obtain ⟨a0, a1, a2, a3, a4, a5, a6⟩ := c
  rw [cn_cells]
  simp only
  go_enter Try.func36, Try.ntmps36
  go_wp2_with fail
  repeat (first | go_values | go_skip | go_guarded | go_step | go_upon)
  exact bodyPost_ret (v := .agg #[.int .i64 a0, .int .i64 a1, .int .i64 a3, .bool true, .bool false]) (by simp [results, Try.results36, go_sem]) rfl ⟨rfl, ((Below.refl _ _).alloc (Nat.le_refl _) _).alloc (by simp) _⟩
end Go.Proofs.Ytdlipponajilbaa
