/- clock: the reference's functions, Pass apart. -/
import Derived.Test.YtdmaaigchfgmdaaCkG
namespace Go.Proofs.Ytdmaaigchfgmdaa
open Go Go.RowKit Go.Sort
set_option linter.unusedVariables false
set_option maxRecDepth 20000 in
set_option maxHeartbeats 2000000 in
theorem shifted_any (x d : Int) (w : World) (hx : Ox x) (d0 : -4611686018427387904 ≤ d) (d1 : d ≤ 4611686018427387904) :
    Calls Try.prog 56 #[.agg (dtL x).toArray, .int .i64 d] w fun r w' => r = .returned (.agg (dtL (x + d)).toArray) ∧ Below w.heap.size w w' := by
  obtain ⟨A, hA⟩ : ∃ t, atI x = t := ⟨_, rfl⟩
  obtain ⟨B, hB⟩ : ∃ t, eraI x = t := ⟨_, rfl⟩
  obtain ⟨C, hC⟩ : ∃ t, atI (x + d) = t := ⟨_, rfl⟩
  obtain ⟨D, hD⟩ : ∃ t, eraI (x + d) = t := ⟨_, rfl⟩
  have bA := atI_bd x
  have bB := eraI_bd hx
  rw [hA] at bA
  rw [hB] at bB
  obtain ⟨X, hX⟩ : ∃ X, IntKind.u64.wrap d = X := ⟨_, rfl⟩
  have u1 : IntKind.u64.wrap (A + X) = C := by rw [← hC, ← hX, ← hA]; simp only [IntKind.wrap_u64]; unfold atI; omega
  have h1 : 0 < d → C < A → D = B + 1 := by rw [← hC, ← hD, ← hA, ← hB]; unfold atI eraI; omega
  have h2 : 0 < d → ¬ C < A → D = B := by rw [← hC, ← hD, ← hA, ← hB]; unfold atI eraI; omega
  have h3 : d < 0 → A < C → D = B - 1 := by rw [← hC, ← hD, ← hA, ← hB]; unfold atI eraI; omega
  have h4 : d < 0 → ¬ A < C → D = B := by rw [← hC, ← hD, ← hA, ← hB]; unfold atI eraI; omega
  have h5 : d = 0 → D = B := by rintro rfl; rw [← hD, ← hB, Int.add_zero]
  have w1 : wrap64 (B + 1) = B + 1 := w64i _ (by omega) (by omega)
  have w2 : wrap64 (B - 1) = B - 1 := w64i _ (by omega) (by omega)
  have HH : Hid ((0 < d → C < A → D = B + 1) ∧ (0 < d → ¬ C < A → D = B) ∧ (d < 0 → A < C → D = B - 1) ∧ (d < 0 → ¬ A < C → D = B) ∧ (d = 0 → D = B)) := ⟨h1, h2, h3, h4, h5⟩
  simp only [dtL]
  rw [hA, hB, hC, hD]
  clear hA hB hC hD hx d0 d1 bA bB h1 h2 h3 h4 h5
  have HC : Hid ((0 < d ∧ C < A) ∨ (0 < d ∧ ¬ C < A) ∨ (d < 0 ∧ A < C) ∨ (d < 0 ∧ ¬ A < C) ∨ d = 0) := by show _ ∨ _; omega
  rcases HC.out with ⟨h1, h2⟩ | ⟨h1, h2⟩ | ⟨h1, h2⟩ | ⟨h1, h2⟩ | h1
  · rw [HH.out.1 h1 h2]
    have h3 : ¬ d < 0 := by omega
    clear HC HH
    go_enter Try.func56, Try.ntmps56
    refine post_hid fun Q hQ => ?_
    refine seq_hid fun R hR => ?_
    go_wp2_with (first
      | (refine step_boxL (by rfl) 43 _ rfl #[.int .i64 B, .int .u64 A] (by rfl) (fun u => by rfl) ?_; intro W1 g1 H1)
      | (refine step_alL (by rfl) 43 rfl #[.int .i64 0, .int .u64 0] (fun u => by kernel_rfl) ?_; intro W2 g2 H2))
    rw [hR.out]
    clear hR
    have HG : Hid (Bk g1 W2 #[.int .i64 B, .int .u64 A] 43 ∧ Bk g2 W2 #[.int .i64 0, .int .u64 0] 43 ∧ Below w.heap.size w W2 ∧ w.heap.size ≤ g2 ∧ w.heap.size ≤ g1 ∧ g1 ≠ g2) := ⟨H2.out.other H1.out.bk, H2.out.bk, below_thru H1.out.be H2.out.be, by have := H1.out.sz; have := H2.out.at'; omega, by have := H1.out.at'; omega, by have := H1.out.sz; have := H2.out.at'; have := H1.out.at'; omega⟩
    clear H1 H2
    have c0 : W2.cell? ⟨g1, 0, none⟩ = some (.int .i64 B) := HG.out.1.cell 0
    have c1 : W2.cell? ⟨g1, 1, none⟩ = some (.int .u64 A) := HG.out.1.cell 1
    have f0 : W2.frozen? ⟨g1, 0, none⟩ = false := HG.out.1.frozen 0
    have f1 : W2.frozen? ⟨g1, 1, none⟩ = false := HG.out.1.frozen 1
    go_upto_region 7 with fail
    refine world_hid fun W3 hW3 => ?_
    have H3 : Hid (Bk g1 W3 #[.int .i64 (B + 1), .int .u64 C] 43 ∧ Bk g2 W3 #[.int .i64 0, .int .u64 0] 43 ∧ Below w.heap.size w W3 ∧ w.heap.size ≤ g2) := by
      rw [hW3.out]
      exact ⟨(HG.out.1.set (j := 0) _).set (j := 1) _, Bk.kept HG.out.2.1 (by rw [Below.heap_setCell _ _ _ _ (fun e => HG.out.2.2.2.2.2 e.symm), Below.heap_setCell _ _ _ _ (fun e => HG.out.2.2.2.2.2 e.symm)]), (HG.out.2.2.1.setCell HG.out.2.2.2.2.1 _).setCell HG.out.2.2.2.2.1 _, HG.out.2.2.2.1⟩
    clear hW3 HG c0 c1 f0 f1
    have c0 : W3.cell? ⟨g1, 0, none⟩ = some (.int .i64 (B + 1)) := H3.out.1.cell 0
    have c1 : W3.cell? ⟨g1, 1, none⟩ = some (.int .u64 C) := H3.out.1.cell 1
    go_wp2_with (refine step_stL (by rfl) _ _ rfl g2 #[.int .i64 (B + 1), .int .u64 C] (by rfl) (by rfl) #[.int .i64 0, .int .u64 0] (by kernel_rfl) rfl (by simp [Value.oneCell']) H3.out.2.1 ?_; intro W4 H4)
    rw [hQ.out]
    refine bodyPost_ret (v := .agg #[.int .i64 (B + 1), .int .u64 C]) (results_cell_row Try.results56 _ _ g2 _ _ (0, 0) _ (by rfl) H4.out.bk Try.underlying43 rfl (by kernel_rfl)) rfl ⟨rfl, ?_⟩
    exact Below.grown H3.out.2.2.1 H4.out.gr H3.out.2.2.1.size (fun k hk => by injection hk with hk; have := H3.out.2.2.2; omega)
  · rw [HH.out.2.1 h1 h2]
    have h3 : ¬ d < 0 := by omega
    clear HC HH
    go_enter Try.func56, Try.ntmps56
    refine post_hid fun Q hQ => ?_
    refine seq_hid fun R hR => ?_
    go_wp2_with (first
      | (refine step_boxL (by rfl) 43 _ rfl #[.int .i64 B, .int .u64 A] (by rfl) (fun u => by rfl) ?_; intro W1 g1 H1)
      | (refine step_alL (by rfl) 43 rfl #[.int .i64 0, .int .u64 0] (fun u => by kernel_rfl) ?_; intro W2 g2 H2))
    rw [hR.out]
    clear hR
    have HG : Hid (Bk g1 W2 #[.int .i64 B, .int .u64 A] 43 ∧ Bk g2 W2 #[.int .i64 0, .int .u64 0] 43 ∧ Below w.heap.size w W2 ∧ w.heap.size ≤ g2 ∧ w.heap.size ≤ g1 ∧ g1 ≠ g2) := ⟨H2.out.other H1.out.bk, H2.out.bk, below_thru H1.out.be H2.out.be, by have := H1.out.sz; have := H2.out.at'; omega, by have := H1.out.at'; omega, by have := H1.out.sz; have := H2.out.at'; have := H1.out.at'; omega⟩
    clear H1 H2
    have c0 : W2.cell? ⟨g1, 0, none⟩ = some (.int .i64 B) := HG.out.1.cell 0
    have c1 : W2.cell? ⟨g1, 1, none⟩ = some (.int .u64 A) := HG.out.1.cell 1
    have f0 : W2.frozen? ⟨g1, 0, none⟩ = false := HG.out.1.frozen 0
    have f1 : W2.frozen? ⟨g1, 1, none⟩ = false := HG.out.1.frozen 1
    go_upto_region 7 with fail
    refine world_hid fun W3 hW3 => ?_
    have H3 : Hid (Bk g1 W3 #[.int .i64 B, .int .u64 C] 43 ∧ Bk g2 W3 #[.int .i64 0, .int .u64 0] 43 ∧ Below w.heap.size w W3 ∧ w.heap.size ≤ g2) := by
      rw [hW3.out]
      exact ⟨HG.out.1.set (j := 1) _, Bk.kept HG.out.2.1 (by rw [Below.heap_setCell _ _ _ _ (fun e => HG.out.2.2.2.2.2 e.symm)]), HG.out.2.2.1.setCell HG.out.2.2.2.2.1 _, HG.out.2.2.2.1⟩
    clear hW3 HG c0 c1 f0 f1
    have c0 : W3.cell? ⟨g1, 0, none⟩ = some (.int .i64 B) := H3.out.1.cell 0
    have c1 : W3.cell? ⟨g1, 1, none⟩ = some (.int .u64 C) := H3.out.1.cell 1
    go_wp2_with (refine step_stL (by rfl) _ _ rfl g2 #[.int .i64 B, .int .u64 C] (by rfl) (by rfl) #[.int .i64 0, .int .u64 0] (by kernel_rfl) rfl (by simp [Value.oneCell']) H3.out.2.1 ?_; intro W4 H4)
    rw [hQ.out]
    refine bodyPost_ret (v := .agg #[.int .i64 B, .int .u64 C]) (results_cell_row Try.results56 _ _ g2 _ _ (0, 0) _ (by rfl) H4.out.bk Try.underlying43 rfl (by kernel_rfl)) rfl ⟨rfl, ?_⟩
    exact Below.grown H3.out.2.2.1 H4.out.gr H3.out.2.2.1.size (fun k hk => by injection hk with hk; have := H3.out.2.2.2; omega)
  · rw [HH.out.2.2.1 h1 h2]
    have h3 : ¬ 0 < d := by omega
    clear HC HH
    go_enter Try.func56, Try.ntmps56
    refine post_hid fun Q hQ => ?_
    refine seq_hid fun R hR => ?_
    go_wp2_with (first
      | (refine step_boxL (by rfl) 43 _ rfl #[.int .i64 B, .int .u64 A] (by rfl) (fun u => by rfl) ?_; intro W1 g1 H1)
      | (refine step_alL (by rfl) 43 rfl #[.int .i64 0, .int .u64 0] (fun u => by kernel_rfl) ?_; intro W2 g2 H2))
    rw [hR.out]
    clear hR
    have HG : Hid (Bk g1 W2 #[.int .i64 B, .int .u64 A] 43 ∧ Bk g2 W2 #[.int .i64 0, .int .u64 0] 43 ∧ Below w.heap.size w W2 ∧ w.heap.size ≤ g2 ∧ w.heap.size ≤ g1 ∧ g1 ≠ g2) := ⟨H2.out.other H1.out.bk, H2.out.bk, below_thru H1.out.be H2.out.be, by have := H1.out.sz; have := H2.out.at'; omega, by have := H1.out.at'; omega, by have := H1.out.sz; have := H2.out.at'; have := H1.out.at'; omega⟩
    clear H1 H2
    have c0 : W2.cell? ⟨g1, 0, none⟩ = some (.int .i64 B) := HG.out.1.cell 0
    have c1 : W2.cell? ⟨g1, 1, none⟩ = some (.int .u64 A) := HG.out.1.cell 1
    have f0 : W2.frozen? ⟨g1, 0, none⟩ = false := HG.out.1.frozen 0
    have f1 : W2.frozen? ⟨g1, 1, none⟩ = false := HG.out.1.frozen 1
    go_upto_region 7 with fail
    refine world_hid fun W3 hW3 => ?_
    have H3 : Hid (Bk g1 W3 #[.int .i64 (B - 1), .int .u64 C] 43 ∧ Bk g2 W3 #[.int .i64 0, .int .u64 0] 43 ∧ Below w.heap.size w W3 ∧ w.heap.size ≤ g2) := by
      rw [hW3.out]
      exact ⟨(HG.out.1.set (j := 0) _).set (j := 1) _, Bk.kept HG.out.2.1 (by rw [Below.heap_setCell _ _ _ _ (fun e => HG.out.2.2.2.2.2 e.symm), Below.heap_setCell _ _ _ _ (fun e => HG.out.2.2.2.2.2 e.symm)]), (HG.out.2.2.1.setCell HG.out.2.2.2.2.1 _).setCell HG.out.2.2.2.2.1 _, HG.out.2.2.2.1⟩
    clear hW3 HG c0 c1 f0 f1
    have c0 : W3.cell? ⟨g1, 0, none⟩ = some (.int .i64 (B - 1)) := H3.out.1.cell 0
    have c1 : W3.cell? ⟨g1, 1, none⟩ = some (.int .u64 C) := H3.out.1.cell 1
    go_wp2_with (refine step_stL (by rfl) _ _ rfl g2 #[.int .i64 (B - 1), .int .u64 C] (by rfl) (by rfl) #[.int .i64 0, .int .u64 0] (by kernel_rfl) rfl (by simp [Value.oneCell']) H3.out.2.1 ?_; intro W4 H4)
    rw [hQ.out]
    refine bodyPost_ret (v := .agg #[.int .i64 (B - 1), .int .u64 C]) (results_cell_row Try.results56 _ _ g2 _ _ (0, 0) _ (by rfl) H4.out.bk Try.underlying43 rfl (by kernel_rfl)) rfl ⟨rfl, ?_⟩
    exact Below.grown H3.out.2.2.1 H4.out.gr H3.out.2.2.1.size (fun k hk => by injection hk with hk; have := H3.out.2.2.2; omega)
  · rw [HH.out.2.2.2.1 h1 h2]
    have h3 : ¬ 0 < d := by omega
    clear HC HH
    go_enter Try.func56, Try.ntmps56
    refine post_hid fun Q hQ => ?_
    refine seq_hid fun R hR => ?_
    go_wp2_with (first
      | (refine step_boxL (by rfl) 43 _ rfl #[.int .i64 B, .int .u64 A] (by rfl) (fun u => by rfl) ?_; intro W1 g1 H1)
      | (refine step_alL (by rfl) 43 rfl #[.int .i64 0, .int .u64 0] (fun u => by kernel_rfl) ?_; intro W2 g2 H2))
    rw [hR.out]
    clear hR
    have HG : Hid (Bk g1 W2 #[.int .i64 B, .int .u64 A] 43 ∧ Bk g2 W2 #[.int .i64 0, .int .u64 0] 43 ∧ Below w.heap.size w W2 ∧ w.heap.size ≤ g2 ∧ w.heap.size ≤ g1 ∧ g1 ≠ g2) := ⟨H2.out.other H1.out.bk, H2.out.bk, below_thru H1.out.be H2.out.be, by have := H1.out.sz; have := H2.out.at'; omega, by have := H1.out.at'; omega, by have := H1.out.sz; have := H2.out.at'; have := H1.out.at'; omega⟩
    clear H1 H2
    have c0 : W2.cell? ⟨g1, 0, none⟩ = some (.int .i64 B) := HG.out.1.cell 0
    have c1 : W2.cell? ⟨g1, 1, none⟩ = some (.int .u64 A) := HG.out.1.cell 1
    have f0 : W2.frozen? ⟨g1, 0, none⟩ = false := HG.out.1.frozen 0
    have f1 : W2.frozen? ⟨g1, 1, none⟩ = false := HG.out.1.frozen 1
    go_upto_region 7 with fail
    refine world_hid fun W3 hW3 => ?_
    have H3 : Hid (Bk g1 W3 #[.int .i64 B, .int .u64 C] 43 ∧ Bk g2 W3 #[.int .i64 0, .int .u64 0] 43 ∧ Below w.heap.size w W3 ∧ w.heap.size ≤ g2) := by
      rw [hW3.out]
      exact ⟨HG.out.1.set (j := 1) _, Bk.kept HG.out.2.1 (by rw [Below.heap_setCell _ _ _ _ (fun e => HG.out.2.2.2.2.2 e.symm)]), HG.out.2.2.1.setCell HG.out.2.2.2.2.1 _, HG.out.2.2.2.1⟩
    clear hW3 HG c0 c1 f0 f1
    have c0 : W3.cell? ⟨g1, 0, none⟩ = some (.int .i64 B) := H3.out.1.cell 0
    have c1 : W3.cell? ⟨g1, 1, none⟩ = some (.int .u64 C) := H3.out.1.cell 1
    go_wp2_with (refine step_stL (by rfl) _ _ rfl g2 #[.int .i64 B, .int .u64 C] (by rfl) (by rfl) #[.int .i64 0, .int .u64 0] (by kernel_rfl) rfl (by simp [Value.oneCell']) H3.out.2.1 ?_; intro W4 H4)
    rw [hQ.out]
    refine bodyPost_ret (v := .agg #[.int .i64 B, .int .u64 C]) (results_cell_row Try.results56 _ _ g2 _ _ (0, 0) _ (by rfl) H4.out.bk Try.underlying43 rfl (by kernel_rfl)) rfl ⟨rfl, ?_⟩
    exact Below.grown H3.out.2.2.1 H4.out.gr H3.out.2.2.1.size (fun k hk => by injection hk with hk; have := H3.out.2.2.2; omega)
  · rw [HH.out.2.2.2.2 h1]
    subst h1
    clear HC HH
    go_enter Try.func56, Try.ntmps56
    refine post_hid fun Q hQ => ?_
    refine seq_hid fun R hR => ?_
    go_wp2_with (first
      | (refine step_boxL (by rfl) 43 _ rfl #[.int .i64 B, .int .u64 A] (by rfl) (fun u => by rfl) ?_; intro W1 g1 H1)
      | (refine step_alL (by rfl) 43 rfl #[.int .i64 0, .int .u64 0] (fun u => by kernel_rfl) ?_; intro W2 g2 H2))
    rw [hR.out]
    clear hR
    have HG : Hid (Bk g1 W2 #[.int .i64 B, .int .u64 A] 43 ∧ Bk g2 W2 #[.int .i64 0, .int .u64 0] 43 ∧ Below w.heap.size w W2 ∧ w.heap.size ≤ g2 ∧ w.heap.size ≤ g1 ∧ g1 ≠ g2) := ⟨H2.out.other H1.out.bk, H2.out.bk, below_thru H1.out.be H2.out.be, by have := H1.out.sz; have := H2.out.at'; omega, by have := H1.out.at'; omega, by have := H1.out.sz; have := H2.out.at'; have := H1.out.at'; omega⟩
    clear H1 H2
    have c0 : W2.cell? ⟨g1, 0, none⟩ = some (.int .i64 B) := HG.out.1.cell 0
    have c1 : W2.cell? ⟨g1, 1, none⟩ = some (.int .u64 A) := HG.out.1.cell 1
    have f0 : W2.frozen? ⟨g1, 0, none⟩ = false := HG.out.1.frozen 0
    have f1 : W2.frozen? ⟨g1, 1, none⟩ = false := HG.out.1.frozen 1
    go_upto_region 7 with fail
    refine world_hid fun W3 hW3 => ?_
    have H3 : Hid (Bk g1 W3 #[.int .i64 B, .int .u64 C] 43 ∧ Bk g2 W3 #[.int .i64 0, .int .u64 0] 43 ∧ Below w.heap.size w W3 ∧ w.heap.size ≤ g2) := by
      rw [hW3.out]
      exact ⟨HG.out.1.set (j := 1) _, Bk.kept HG.out.2.1 (by rw [Below.heap_setCell _ _ _ _ (fun e => HG.out.2.2.2.2.2 e.symm)]), HG.out.2.2.1.setCell HG.out.2.2.2.2.1 _, HG.out.2.2.2.1⟩
    clear hW3 HG c0 c1 f0 f1
    have c0 : W3.cell? ⟨g1, 0, none⟩ = some (.int .i64 B) := H3.out.1.cell 0
    have c1 : W3.cell? ⟨g1, 1, none⟩ = some (.int .u64 C) := H3.out.1.cell 1
    go_wp2_with (refine step_stL (by rfl) _ _ rfl g2 #[.int .i64 B, .int .u64 C] (by rfl) (by rfl) #[.int .i64 0, .int .u64 0] (by kernel_rfl) rfl (by simp [Value.oneCell']) H3.out.2.1 ?_; intro W4 H4)
    rw [hQ.out]
    refine bodyPost_ret (v := .agg #[.int .i64 B, .int .u64 C]) (results_cell_row Try.results56 _ _ g2 _ _ (0, 0) _ (by rfl) H4.out.bk Try.underlying43 rfl (by kernel_rfl)) rfl ⟨rfl, ?_⟩
    exact Below.grown H3.out.2.2.1 H4.out.gr H3.out.2.2.1.size (fun k hk => by injection hk with hk; have := H3.out.2.2.2; omega)
end Go.Proofs.Ytdmaaigchfgmdaa
