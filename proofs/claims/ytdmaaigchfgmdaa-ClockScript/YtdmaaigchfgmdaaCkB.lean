/- clock: dates a span later; the oscillator. -/
import Derived.Test.YtdmaaigchfgmdaaCkA
import Derived.Test.YtdmaaigchfgmdaaGE
namespace Go.Proofs.Ytdmaaigchfgmdaa
open Go Go.RowKit Go.Sort
set_option linter.unusedVariables false
set_option maxHeartbeats 1000000 in
theorem later_any (x d : Int) (w : World) (hx : Ox x) (d0 : -4611686018427387904 ≤ d) (d1 : d ≤ 4611686018427387904) :
    Calls Try.prog 29 #[.agg (dtL x).toArray, .int .i64 d] w fun r w' => r = .returned (.agg (dtL (x + d)).toArray) ∧ Below w.heap.size w w' := by
  obtain ⟨A, hA⟩ : ∃ t, atI x = t := ⟨_, rfl⟩
  obtain ⟨B, hB⟩ : ∃ t, eraI x = t := ⟨_, rfl⟩
  obtain ⟨C, hC⟩ : ∃ t, atI (x + d) = t := ⟨_, rfl⟩
  obtain ⟨D, hD⟩ : ∃ t, eraI (x + d) = t := ⟨_, rfl⟩
  have bA := atI_bd x
  have K1 : Hid (∀ u, Calls Try.prog 50 #[.int .u64 A, .int .i64 d] u fun e w' => e = .returned (.int .u64 C) ∧ w' = u) := fun u => by
    have h := tplus_any A d u (by omega) (by omega)
    have e : (A + d) % 18446744073709551616 = C := by rw [← hA, ← hC]; unfold atI; omega
    rw [e] at h; exact h
  have K2 : Hid (∀ u, Calls Try.prog 49 #[.int .u64 C, .agg #[.int .i64 B, .int .u64 A]] u fun r w' => r = .returned (.agg #[.int .i64 D, .int .u64 C]) ∧ Below u.heap.size u w') := fun u => by
    have h := unfold_near x d u hx d0 d1
    simp only [dtL] at h
    rw [hA, hB, hC, hD] at h; exact h
  simp only [dtL]
  rw [hA, hB, hC, hD]
  clear hA hB hC hD hx d0 d1 bA
  go_enter Try.func29, Try.ntmps29
  refine post_hid fun Q hQ => ?_
  refine seq_hid fun R hR => ?_
  go_wp2_with (first
    | (refine step_boxL (by rfl) 25 _ rfl #[.int .i64 B, .int .u64 A] (by rfl) (fun u => by rfl) ?_; intro W1 g1 H1)
    | (refine step_alL (by rfl) 25 rfl #[.int .i64 0, .int .u64 0] (fun u => by kernel_rfl) ?_; intro W2 g2 H2))
  rw [hR.out]
  clear hR
  have HG : Hid (Bk g1 W2 #[.int .i64 B, .int .u64 A] 25 ∧ Bk g2 W2 #[.int .i64 0, .int .u64 0] 25 ∧ Below w.heap.size w W2 ∧ w.heap.size ≤ g2 ∧ w.heap.size ≤ g1 ∧ g1 ≠ g2) := ⟨H2.out.other H1.out.bk, H2.out.bk, below_thru H1.out.be H2.out.be, by have := H1.out.sz; have := H2.out.at'; omega, by have := H1.out.at'; omega, by have := H1.out.sz; have := H2.out.at'; have := H1.out.at'; omega⟩
  clear H1 H2
  refine seq_hid fun R hR => ?_
  have HL : Hid (∀ u : World, W2.heap.size ≤ u.heap.size → (∀ k, k < W2.heap.size → u.heap[k]? = W2.heap[k]?) → u.cell? ⟨g1, 0, none⟩ = some (.int .i64 B) ∧ u.cell? ⟨g1, 1, none⟩ = some (.int .u64 A)) := fun u _ hu => by
    have hb : Bk g1 u #[.int .i64 B, .int .u64 A] 25 := HG.out.1.kept (hu _ HG.out.1.lt)
    exact ⟨hb.cell 0, hb.cell 1⟩
  go_wp2_with fail
  refine wp_region_lastH (S := fun w' => w'.cell? ⟨g1, 0, none⟩ = some (.int .i64 B) ∧ w'.cell? ⟨g1, 1, none⟩ = some (.int .u64 A)) (by kernel_rfl) (by kernel_rfl) (by rfl) (HL.out _ (Nat.le_refl _) (fun _ _ => rfl)) (fun hHeld => ?_)
  simp only [idleLast, idle]
  refine wpAnyH_takeD (some 5) (i := 0) (v := ?_) rfl (by kernel_rfl) (by kernel_rfl) (by kernel_rfl) (fun _ _ _ h => h) (Or.inl ⟨by rfl, ?_⟩) (by assumption) rfl ?_
  rotate_left
  · (intro w hSw; (try dsimp only at hSw); go_split_ands; go_simp; first | done | with_reducible rfl)
  simp only [Act.put, List.setIfInBounds_toArray, List.set_cons_zero, List.set_cons_succ]
  refine wpAnyH_takeD (some 6) (i := 1) (v := ?_) rfl (by kernel_rfl) (by kernel_rfl) (by kernel_rfl) (fun _ _ _ h => h) (Or.inl ⟨by rfl, ?_⟩) (by assumption) rfl ?_
  rotate_left
  · (intro w hSw; (try dsimp only at hSw); go_split_ands; go_simp; first | done | with_reducible rfl)
  simp only [Act.put, List.setIfInBounds_toArray, List.set_cons_zero, List.set_cons_succ]
  refine wpAnyH_takeD (some 7) (i := 2) (v := ?_) rfl (by kernel_rfl) (by kernel_rfl) (by kernel_rfl) (fun _ _ _ h => h) (Or.inl ⟨by rfl, ?_⟩) (by assumption) rfl ?_
  rotate_left
  · (intro w hSw; (try dsimp only at hSw); go_split_ands; go_simp; first | done | with_reducible rfl)
  simp only [Act.put, List.setIfInBounds_toArray, List.set_cons_zero, List.set_cons_succ]
  refine wpAnyH_takeD (some 9) (i := 4) (v := ?_) rfl (by kernel_rfl) (by kernel_rfl) (by kernel_rfl) (fun _ _ _ h => h) (Or.inl ⟨by rfl, ?_⟩) (by assumption) rfl ?_
  rotate_left
  · (intro w hSw; (try dsimp only at hSw); go_split_ands; go_simp; first | done | with_reducible rfl)
  simp only [Act.put, List.setIfInBounds_toArray, List.set_cons_zero, List.set_cons_succ]
  refine wpAnyH_ready (rs := [3]) (by kernel_rfl) (by simp) ?_
  refine AllReadyH.cons rfl (fun Kz hKz => ?_) AllReadyH.nil
  go_simp
  go_wp2_with (go_at_call 50; refine (K1.out _).mono ?_; rintro e w1 ⟨rfl, hw⟩; rw [hw]; clear hw)
  refine hKz.out _ _ (HL.out _ (Nat.le_refl _) (fun _ _ => rfl)) (fun hHeld => ?_)
  clear hKz Kz
  refine wpAnyH_ready (rs := [5]) (by kernel_rfl) (by simp) ?_
  refine AllReadyH.cons rfl (fun Kz hKz => ?_) AllReadyH.nil
  go_simp
  go_wp2_with (go_at_call 49; refine (K2.out _).mono ?_; rintro e w3 ⟨rfl, hb⟩; have HB : Hid (Below W2.heap.size W2 w3) := ⟨hb.os, hb.tape, hb.output, hb.size, hb.block⟩; clear hb)
  refine hKz.out _ _ (HL.out _ HB.out.size HB.out.block) (fun hHeld => ?_)
  clear hKz Kz
  refine wpAnyH_idle (i := 6) (v := .bool true) rfl (by kernel_rfl) (by kernel_rfl) (by kernel_rfl) (fun _ _ _ h => h) (Or.inl ⟨by rfl, fun _ _ => rfl⟩) (by assumption) rfl ?_
  refine wpAnyH_done (by kernel_rfl) ?_ _
  refine lastQ_of _ rfl ?_
  have HS : Hid (Bk g2 w3 #[.int .i64 0, .int .u64 0] 25) := HG.out.2.1.kept (HB.out.block _ HG.out.2.1.lt)
  refine step_stL (by rfl) _ _ rfl g2 #[.int .i64 D, .int .u64 C] (by rfl) (by rfl) #[.int .i64 0, .int .u64 0] (by kernel_rfl) rfl (by simp [Value.oneCell']) HS.out ?_
  intro W4 H4
  simp only [put_none, wpList]
  go_wp2_with fail
  rw [hR.out]
  clear hR
  go_wp2_with fail
  rw [hQ.out]
  refine bodyPost_ret (v := .agg #[.int .i64 D, .int .u64 C]) (results_cell_row Try.results29 _ _ g2 _ _ (0, 0) _ (by rfl) H4.out.bk Try.underlying25 rfl (by kernel_rfl)) rfl ⟨rfl, ?_⟩
  exact Below.grown (below_thru HG.out.2.2.1 HB.out) H4.out.gr (below_thru HG.out.2.2.1 HB.out).size (fun k hk => by injection hk with hk; have := HG.out.2.2.2.1; omega)
set_option maxHeartbeats 1000000 in
theorem date_any (p0 : Nat) (s : Cs) (w : World) (h : Po w p0 s) (ok : OkC s) : Calls Try.prog 14 #[.pointer (some ⟨p0, 0, none⟩)] w fun r w' => r = .returned (.agg (dtL (s.x + s.e)).toArray) ∧ Below w.heap.size w w' := by
  obtain ⟨A, hA⟩ : ∃ t, atI s.x = t := ⟨_, rfl⟩
  obtain ⟨B, hB⟩ : ∃ t, eraI s.x = t := ⟨_, rfl⟩
  obtain ⟨C, hC⟩ : ∃ t, atI (s.x + s.e) = t := ⟨_, rfl⟩
  obtain ⟨D, hD⟩ : ∃ t, eraI (s.x + s.e) = t := ⟨_, rfl⟩
  obtain ⟨e, he⟩ : ∃ t, s.e = t := ⟨_, rfl⟩
  have K1 : Hid (∀ u, Calls Try.prog 29 #[.agg #[.int .i64 B, .int .u64 A], .int .i64 e] u fun r w' => r = .returned (.agg #[.int .i64 D, .int .u64 C]) ∧ Below u.heap.size u w') := fun u => by
    have h := later_any s.x s.e u ok.ox ok.e0 ok.e1
    simp only [dtL] at h
    rw [hA, hB, hC, hD, he] at h; exact h
  have HL : Hid (∀ u : World, (∀ k, k < w.heap.size → u.heap[k]? = w.heap[k]?) → u.cell? ⟨p0, 0, none⟩ = some (.int .i64 B) ∧ u.cell? ⟨p0, 1, none⟩ = some (.int .u64 A) ∧ u.cell? ⟨p0, 2, none⟩ = some (.int .i64 e)) := fun u hu => by
    have hb : Po u p0 s := Bk.kept h (hu _ (Bk.lt h))
    have c0 := hb.cell 0
    have c1 := hb.cell 1
    have c2 := hb.cell 2
    rw [← hA, ← hB, ← he]
    exact ⟨c0, c1, c2⟩
  simp only [dtL]
  rw [hC, hD]
  clear hA hB hC hD he h ok
  go_enter Try.func14, Try.ntmps14
  refine post_hid fun Q hQ => ?_
  refine seq_hid fun R hR => ?_
  go_wp2_with (first
    | (refine step_alL (by rfl) 25 rfl #[.int .i64 0, .int .u64 0] (fun u => by kernel_rfl) ?_; intro W2 g2 H2))
  rw [hR.out]
  clear hR
  refine seq_hid fun R hR => ?_
  go_wp2_with fail
  refine wp_region_lastH (S := fun w' => w'.cell? ⟨p0, 0, none⟩ = some (.int .i64 B) ∧ w'.cell? ⟨p0, 1, none⟩ = some (.int .u64 A) ∧ w'.cell? ⟨p0, 2, none⟩ = some (.int .i64 e)) (by kernel_rfl) (by kernel_rfl) (by rfl) (HL.out _ (fun k hk => H2.out.be.block k hk)) (fun hHeld => ?_)
  simp only [idleLast, idle]
  refine wpAnyH_takeD (some 3) (i := 0) (v := ?_) rfl (by kernel_rfl) (by kernel_rfl) (by kernel_rfl) (fun _ _ _ h => h) (Or.inl ⟨by rfl, ?_⟩) (by assumption) rfl ?_
  rotate_left
  · (intro w hSw; (try dsimp only at hSw); go_split_ands; go_simp; first | done | with_reducible rfl)
  simp only [Act.put, List.setIfInBounds_toArray, List.set_cons_zero, List.set_cons_succ]
  refine wpAnyH_takeD (some 4) (i := 1) (v := ?_) rfl (by kernel_rfl) (by kernel_rfl) (by kernel_rfl) (fun _ _ _ h => h) (Or.inl ⟨by rfl, ?_⟩) (by assumption) rfl ?_
  rotate_left
  · (intro w hSw; (try dsimp only at hSw); go_split_ands; go_simp; first | done | with_reducible rfl)
  simp only [Act.put, List.setIfInBounds_toArray, List.set_cons_zero, List.set_cons_succ]
  refine wpAnyH_takeD (some 5) (i := 2) (v := ?_) rfl (by kernel_rfl) (by kernel_rfl) (by kernel_rfl) (fun _ _ _ h => h) (Or.inl ⟨by rfl, ?_⟩) (by assumption) rfl ?_
  rotate_left
  · (intro w hSw; (try dsimp only at hSw); go_split_ands; go_simp; first | done | with_reducible rfl)
  simp only [Act.put, List.setIfInBounds_toArray, List.set_cons_zero, List.set_cons_succ]
  refine wpAnyH_takeD (some 6) (i := 3) (v := ?_) rfl (by kernel_rfl) (by kernel_rfl) (by kernel_rfl) (fun _ _ _ h => h) (Or.inl ⟨by rfl, ?_⟩) (by assumption) rfl ?_
  rotate_left
  · (intro w hSw; (try dsimp only at hSw); go_split_ands; go_simp; first | done | with_reducible rfl)
  simp only [Act.put, List.setIfInBounds_toArray, List.set_cons_zero, List.set_cons_succ]
  refine wpAnyH_takeD (some 7) (i := 4) (v := ?_) rfl (by kernel_rfl) (by kernel_rfl) (by kernel_rfl) (fun _ _ _ h => h) (Or.inl ⟨by rfl, ?_⟩) (by assumption) rfl ?_
  rotate_left
  · (intro w hSw; (try dsimp only at hSw); go_split_ands; go_simp; first | done | with_reducible rfl)
  simp only [Act.put, List.setIfInBounds_toArray, List.set_cons_zero, List.set_cons_succ]
  refine wpAnyH_takeD (some 8) (i := 5) (v := ?_) rfl (by kernel_rfl) (by kernel_rfl) (by kernel_rfl) (fun _ _ _ h => h) (Or.inl ⟨by rfl, ?_⟩) (by assumption) rfl ?_
  rotate_left
  · (intro w hSw; (try dsimp only at hSw); go_split_ands; go_simp; first | done | with_reducible rfl)
  simp only [Act.put, List.setIfInBounds_toArray, List.set_cons_zero, List.set_cons_succ]
  refine wpAnyH_takeD (some 9) (i := 6) (v := ?_) rfl (by kernel_rfl) (by kernel_rfl) (by kernel_rfl) (fun _ _ _ h => h) (Or.inl ⟨by rfl, ?_⟩) (by assumption) rfl ?_
  rotate_left
  · (intro w hSw; (try dsimp only at hSw); go_split_ands; go_simp; first | done | with_reducible rfl)
  simp only [Act.put, List.setIfInBounds_toArray, List.set_cons_zero, List.set_cons_succ]
  refine wpAnyH_takeD (some 10) (i := 7) (v := ?_) rfl (by kernel_rfl) (by kernel_rfl) (by kernel_rfl) (fun _ _ _ h => h) (Or.inl ⟨by rfl, ?_⟩) (by assumption) rfl ?_
  rotate_left
  · (intro w hSw; (try dsimp only at hSw); go_split_ands; go_simp; first | done | with_reducible rfl)
  simp only [Act.put, List.setIfInBounds_toArray, List.set_cons_zero, List.set_cons_succ]
  refine wpAnyH_ready (rs := [8]) (by kernel_rfl) (by simp) ?_
  refine AllReadyH.cons rfl (fun Kz hKz => ?_) AllReadyH.nil
  go_simp
  go_wp2_with (go_at_call 29; refine (K1.out _).mono ?_; rintro e w3 ⟨rfl, hb⟩; have HB : Hid (Below W2.heap.size W2 w3) := ⟨hb.os, hb.tape, hb.output, hb.size, hb.block⟩; clear hb)
  refine hKz.out _ _ (HL.out _ (fun k hk => (HB.out.block k (by have := H2.out.sz; omega)).trans (H2.out.be.block k hk))) (fun hHeld => ?_)
  clear hKz Kz
  refine wpAnyH_idle (i := 9) (v := .bool true) rfl (by kernel_rfl) (by kernel_rfl) (by kernel_rfl) (fun _ _ _ h => h) (Or.inl ⟨by rfl, fun _ _ => rfl⟩) (by assumption) rfl ?_
  refine wpAnyH_done (by kernel_rfl) ?_ _
  refine lastQ_of _ rfl ?_
  have HS : Hid (Bk g2 w3 #[.int .i64 0, .int .u64 0] 25) := H2.out.bk.kept (HB.out.block _ H2.out.bk.lt)
  refine step_stL (by rfl) _ _ rfl g2 #[.int .i64 D, .int .u64 C] (by rfl) (by rfl) #[.int .i64 0, .int .u64 0] (by kernel_rfl) rfl (by simp [Value.oneCell']) HS.out ?_
  intro W4 H4
  simp only [put_none, wpList]
  go_wp2_with fail
  rw [hR.out]
  clear hR
  go_wp2_with fail
  rw [hQ.out]
  refine bodyPost_ret (v := .agg #[.int .i64 D, .int .u64 C]) (results_cell_row Try.results14 _ _ g2 _ _ (0, 0) _ (by rfl) H4.out.bk Try.underlying25 rfl (by kernel_rfl)) rfl ⟨rfl, ?_⟩
  exact Below.grown (below_thru H2.out.be HB.out) H4.out.gr (below_thru H2.out.be HB.out).size (fun k hk => by injection hk with hk; have := H2.out.at'; omega)
end Go.Proofs.Ytdmaaigchfgmdaa
