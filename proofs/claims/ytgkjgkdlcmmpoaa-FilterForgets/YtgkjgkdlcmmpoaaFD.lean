/- What sample, Add, Clear and tell do. -/
import Derived.Test.YtgkjgkdlcmmpoaaFC
namespace Go.Proofs.Ytgkjgkdlcmmpoaa
open Go Go.RowKit Fi
theorem sm_info : (Try.prog.info? 27).map (·.size) = some 4 := by kernel_rfl
theorem ix_ring (g o i : Nat) (hi : i < 8) : ∀ w, Sem.run Try.prog (Instr.indexAt 49 (.pointer (some ⟨g, o, none⟩)) (.int .i64 (i : Int))) w = .ok (.pointer (some ⟨g, o + i * 4, none⟩)) w := by
  intro w
  have u := Try.underlying49
  have c3 : Try.prog.cellsOf 27 = 4 := by kernel_rfl
  have h0 : (0 : Int) ≤ i := Int.natCast_nonneg i
  have h1 : (i : Int) < 8 := by omega
  rw [← add_at]
  go_simp
set_option maxRecDepth 20000 in
set_option maxHeartbeats 400000 in
theorem sample_b (p : Nat) (rs : List Smp) (n k : Nat) (c : Int) (t : Bool) (la : Int) (w : World) (h : Fb w p rs n c t la) (hn : (n : Int) < 8) (hk : (k : Int) < 8) :
    Calls Try.prog 28 #[.pointer (some ⟨p, 0, none⟩), .int .i64 k] w fun e w' => e = .returned (.agg (smL (rs.getD ((n + k) % 8) z0)).toArray) ∧ Below w.heap.size w w' := by
  have h1 := h.n
  obtain ⟨i, hi⟩ : ∃ i, i = (n + k) % 8 := ⟨_, rfl⟩
  have hi8 : i < 8 := by omega
  have HC : Hid (∀ j u, (smL (rs.getD i z0))[j]? = some u → w.cell? ((⟨p, i * 4, none⟩ : Addr).add j) = some u) := h.at i hi8
  rw [← hi]
  have e1 : IntKind.i64.wrap ((n : Int) + (k : Int)) = (n : Int) + (k : Int) := by rw [IntKind.wrap_i64]; omega
  have e2 : ((n : Int) + (k : Int)).tmod 8 = (i : Int) := by rw [Int.tmod_eq_emod_of_nonneg (by omega)]; omega
  have hp := h.lt
  have hix := ix_ring p 0 i hi8
  rw [Nat.zero_add] at hix
  clear h hi
  go_enter Try.func28, Try.ntmps28
  go_wp2
  refine world_hid fun W hW => ?_
  have hB : Below w.heap.size w W := by rw [hW.out]; exact (Below.refl _ _).alloc (Nat.le_refl _) _
  have g1 : W.cell? ⟨p, 32, none⟩ = some (.int .i64 n) := (hB.cell (p := ⟨p, 32, none⟩) hp).trans h1
  have HC2 : Hid (∀ w', (∃ n, w' = W.drewN n) → ∀ j u, (smL (rs.getD i z0))[j]? = some u → w'.cell? ((⟨p, i * 4, none⟩ : Addr).add j) = some u) := by
    rintro _ ⟨q, rfl⟩ j u hu
    exact (hB.cell (p := (⟨p, i * 4, none⟩ : Addr).add j) (by rw [add_block]; exact hp)).trans (HC.out j u hu)
  have HZ : Hid (W.heap[w.heap.size]? = some (.cells #[.int .i64 0, .int .i64 0, .int .i64 0, .int .u64 0] 27 (0, 0))) := by show W.heap[w.heap.size]? = _; rw [hW.out]; exact alloc_at _ _
  have HB : Hid (Below w.heap.size w W) := hB
  clear hW h1 hp HC hB
  refine wp_region_last (by kernel_rfl) (by kernel_rfl) (by rfl) (by kernel_rfl) ?_
  simp only [idleLast, idle]
  repeat (first | (refine quiet_ld6 (by rfl) 27 _ rfl ⟨p, i * 4, none⟩ (by rfl) (smL (rs.getD i z0)) _ Try.underlying27 rfl (by kernel_rfl) HC2.out ?_) | (quiet_step (fail)))
  refine wpQuiet_nil ?_
  intro _ hw'
  obtain ⟨nq, hw''⟩ := hw'
  subst hw''
  refine wpOp_st (g := w.heap.size) (T := 27) _ (by rfl) rfl _ _ rfl (smL (rs.getD i z0)).toArray (by rfl) (by rfl) _ HZ.out (by kernel_rfl) (by rfl) (by kernel_rfl) ?_
  have hB2 : Below w.heap.size w ((W.drewN nq).setRow w.heap.size (smL (rs.getD i z0)).toArray) := below_row (below_dr HB.out nq) (Nat.le_refl _) _
  have hR2 : ((W.drewN nq).setRow w.heap.size (smL (rs.getD i z0)).toArray).heap[w.heap.size]? = some (.cells (smL (rs.getD i z0)).toArray 27 (0, 0)) := setRow_heap (W.drewN nq) _ _ _ _ _ HZ.out
  generalize (W.drewN nq).setRow w.heap.size (smL (rs.getD i z0)).toArray = W2 at *
  repeat (first | go_values | go_skip | go_guarded | go_step | go_upon)
  exact bodyPost_ret (v := .agg (smL (rs.getD i z0)).toArray) (results_cell_row Try.results28 _ _ w.heap.size _ _ (0, 0) _ (by rfl) hR2 Try.underlying27 rfl (by kernel_rfl)) rfl ⟨rfl, hB2⟩
end Go.Proofs.Ytgkjgkdlcmmpoaa
