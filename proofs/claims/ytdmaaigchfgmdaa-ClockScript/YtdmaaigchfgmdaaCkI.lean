/- clock: the reference's Date, Now, day, At, Slew, setters. -/
import Derived.Test.YtdmaaigchfgmdaaCkH
namespace Go.Proofs.Ytdmaaigchfgmdaa
open Go Go.RowKit Go.Sort
set_option linter.unusedVariables false
set_option maxHeartbeats 1000000 in
theorem rdate_any (p0 : Nat) (s : Cs) (w : World) (h : Rp w p0 s) (ok : OkC s) : Calls Try.prog 34 #[.pointer (some ⟨p0, 0, none⟩)] w fun r w' => r = .returned (.agg (dtL (s.x + s.e)).toArray) ∧ Below w.heap.size w w' := by
  obtain ⟨A, hA⟩ : ∃ t, atI s.x = t := ⟨_, rfl⟩
  obtain ⟨B, hB⟩ : ∃ t, eraI s.x = t := ⟨_, rfl⟩
  obtain ⟨C, hC⟩ : ∃ t, atI (s.x + s.e) = t := ⟨_, rfl⟩
  obtain ⟨D, hD⟩ : ∃ t, eraI (s.x + s.e) = t := ⟨_, rfl⟩
  obtain ⟨e, he⟩ : ∃ t, s.e = t := ⟨_, rfl⟩
  have K1 : Hid (∀ u, Calls Try.prog 56 #[.agg #[.int .i64 B, .int .u64 A], .int .i64 e] u fun r w' => r = .returned (.agg #[.int .i64 D, .int .u64 C]) ∧ Below u.heap.size u w') := fun u => by
    have h := shifted_any s.x s.e u ok.ox ok.e0 ok.e1
    simp only [dtL] at h
    rw [hA, hB, hC, hD, he] at h; exact h
  have HL : Hid (∀ u : World, (∀ k, k < w.heap.size → u.heap[k]? = w.heap[k]?) → u.cell? ⟨p0, 0, none⟩ = some (.int .i64 B) ∧ u.cell? ⟨p0, 1, none⟩ = some (.int .u64 A) ∧ u.cell? ⟨p0, 2, none⟩ = some (.int .i64 e)) := fun u hu => by
    have hb : Rp u p0 s := Bk.kept h (hu _ (Bk.lt h))
    have c0 := hb.cell 0
    have c1 := hb.cell 1
    have c2 := hb.cell 2
    rw [← hA, ← hB, ← he]
    exact ⟨c0, c1, c2⟩
  simp only [dtL]
  rw [hC, hD]
  clear hA hB hC hD he h ok
  go_enter Try.func34, Try.ntmps34
  refine post_hid fun Q hQ => ?_
  refine seq_hid fun R hR => ?_
  go_wp2_with (first
    | (refine step_alL (by rfl) 43 rfl #[.int .i64 0, .int .u64 0] (fun u => by kernel_rfl) ?_; intro W2 g2 H2))
  rw [hR.out]
  clear hR
  refine seq_hid fun R hR => ?_
  go_wp2_with fail
  refine wp_region_lastH (S := fun w' => w'.cell? ⟨p0, 0, none⟩ = some (.int .i64 B) ∧ w'.cell? ⟨p0, 1, none⟩ = some (.int .u64 A) ∧ w'.cell? ⟨p0, 2, none⟩ = some (.int .i64 e)) (by kernel_rfl) (by kernel_rfl) (by rfl) (HL.out _ (fun k hk => H2.out.be.block k hk)) (fun hHeld => ?_)
  simp only [idleLast, idle]
  refine wpAnyH_takeD (some 3) (i := 0) (v := ?_) rfl (by kernel_rfl) (by kernel_rfl) (by kernel_rfl) (fun _ _ _ h => h) (Or.inl ⟨by rfl, ?_⟩) (by assumption) rfl ?_
  rotate_left
  · (intro w hSw; (try dsimp only at hSw); go_split_ands; go_simp; first | done | with_reducible rfl)
  simp only [Act.put, List.setIfInBounds_toArray, List.set_cons_zero, List.set_cons_succ]
  refine wpAnyH_takeD (some 4) (i := 1) (v := ?_) rfl (by kernel_rfl) (by kernel_rfl) (by kernel_rfl) (fun _ _ _ h => h) (Or.inl ⟨by rfl, ?_⟩) (by assumption) rfl ?_
  rotate_left
  · (intro w hSw; (try dsimp only at hSw); go_split_ands; go_simp; first | done | with_reducible rfl)
  simp only [Act.put, List.setIfInBounds_toArray, List.set_cons_zero, List.set_cons_succ]
  refine wpAnyH_takeD (some 5) (i := 2) (v := ?_) rfl (by kernel_rfl) (by kernel_rfl) (by kernel_rfl) (fun _ _ _ h => h) (Or.inl ⟨by rfl, ?_⟩) (by assumption) rfl ?_
  rotate_left
  · (intro w hSw; (try dsimp only at hSw); go_split_ands; go_simp; first | done | with_reducible rfl)
  simp only [Act.put, List.setIfInBounds_toArray, List.set_cons_zero, List.set_cons_succ]
  refine wpAnyH_takeD (some 6) (i := 3) (v := ?_) rfl (by kernel_rfl) (by kernel_rfl) (by kernel_rfl) (fun _ _ _ h => h) (Or.inl ⟨by rfl, ?_⟩) (by assumption) rfl ?_
  rotate_left
  · (intro w hSw; (try dsimp only at hSw); go_split_ands; go_simp; first | done | with_reducible rfl)
  simp only [Act.put, List.setIfInBounds_toArray, List.set_cons_zero, List.set_cons_succ]
  refine wpAnyH_takeD (some 7) (i := 4) (v := ?_) rfl (by kernel_rfl) (by kernel_rfl) (by kernel_rfl) (fun _ _ _ h => h) (Or.inl ⟨by rfl, ?_⟩) (by assumption) rfl ?_
  rotate_left
  · (intro w hSw; (try dsimp only at hSw); go_split_ands; go_simp; first | done | with_reducible rfl)
  simp only [Act.put, List.setIfInBounds_toArray, List.set_cons_zero, List.set_cons_succ]
  refine wpAnyH_takeD (some 8) (i := 5) (v := ?_) rfl (by kernel_rfl) (by kernel_rfl) (by kernel_rfl) (fun _ _ _ h => h) (Or.inl ⟨by rfl, ?_⟩) (by assumption) rfl ?_
  rotate_left
  · (intro w hSw; (try dsimp only at hSw); go_split_ands; go_simp; first | done | with_reducible rfl)
  simp only [Act.put, List.setIfInBounds_toArray, List.set_cons_zero, List.set_cons_succ]
  refine wpAnyH_takeD (some 9) (i := 6) (v := ?_) rfl (by kernel_rfl) (by kernel_rfl) (by kernel_rfl) (fun _ _ _ h => h) (Or.inl ⟨by rfl, ?_⟩) (by assumption) rfl ?_
  rotate_left
  · (intro w hSw; (try dsimp only at hSw); go_split_ands; go_simp; first | done | with_reducible rfl)
  simp only [Act.put, List.setIfInBounds_toArray, List.set_cons_zero, List.set_cons_succ]
  refine wpAnyH_takeD (some 10) (i := 7) (v := ?_) rfl (by kernel_rfl) (by kernel_rfl) (by kernel_rfl) (fun _ _ _ h => h) (Or.inl ⟨by rfl, ?_⟩) (by assumption) rfl ?_
  rotate_left
  · (intro w hSw; (try dsimp only at hSw); go_split_ands; go_simp; first | done | with_reducible rfl)
  simp only [Act.put, List.setIfInBounds_toArray, List.set_cons_zero, List.set_cons_succ]
  refine wpAnyH_ready (rs := [8]) (by kernel_rfl) (by simp) ?_
  refine AllReadyH.cons rfl (fun Kz hKz => ?_) AllReadyH.nil
  go_simp
  go_wp2_with (go_at_call 56; refine (K1.out _).mono ?_; rintro e w3 ⟨rfl, hb⟩; have HB : Hid (Below W2.heap.size W2 w3) := ⟨hb.os, hb.tape, hb.output, hb.size, hb.block⟩; clear hb)
  refine hKz.out _ _ (HL.out _ (fun k hk => (HB.out.block k (by have := H2.out.sz; omega)).trans (H2.out.be.block k hk))) (fun hHeld => ?_)
  clear hKz Kz
  refine wpAnyH_idle (i := 9) (v := .bool true) rfl (by kernel_rfl) (by kernel_rfl) (by kernel_rfl) (fun _ _ _ h => h) (Or.inl ⟨by rfl, fun _ _ => rfl⟩) (by assumption) rfl ?_
  refine wpAnyH_done (by kernel_rfl) ?_ _
  refine lastQ_of _ rfl ?_
  have HS : Hid (Bk g2 w3 #[.int .i64 0, .int .u64 0] 43) := H2.out.bk.kept (HB.out.block _ H2.out.bk.lt)
  refine step_stL (by rfl) _ _ rfl g2 #[.int .i64 D, .int .u64 C] (by rfl) (by rfl) #[.int .i64 0, .int .u64 0] (by kernel_rfl) rfl (by simp [Value.oneCell']) HS.out ?_
  intro W4 H4
  simp only [put_none, wpList]
  go_wp2_with fail
  rw [hR.out]
  clear hR
  go_wp2_with fail
  rw [hQ.out]
  refine bodyPost_ret (v := .agg #[.int .i64 D, .int .u64 C]) (results_cell_row Try.results34 _ _ g2 _ _ (0, 0) _ (by rfl) H4.out.bk Try.underlying43 rfl (by kernel_rfl)) rfl ⟨rfl, ?_⟩
  exact Below.grown (below_thru H2.out.be HB.out) H4.out.gr (below_thru H2.out.be HB.out).size (fun k hk => by injection hk with hk; have := H2.out.at'; omega)
set_option maxRecDepth 20000 in
theorem rnow_any (p : Nat) (s : Cs) (w : World) (h : Rp w p s) (ok : OkC s) : Calls Try.prog 33 #[.pointer (some ⟨p, 0, none⟩)] w fun r w' => r = .returned (.int .u64 (atI (s.x + s.e))) ∧ Below w.heap.size w w' := by
  obtain ⟨A, hA⟩ : ∃ t, atI (s.x + s.e) = t := ⟨_, rfl⟩
  obtain ⟨E, hE⟩ : ∃ t, eraI (s.x + s.e) = t := ⟨_, rfl⟩
  have K : Hid (Calls Try.prog 34 #[.pointer (some ⟨p, 0, none⟩)] w fun r w' => r = .returned (.agg #[.int .i64 E, .int .u64 A]) ∧ Below w.heap.size w w') := by
    rw [← hA, ← hE]; exact rdate_any p s w h ok
  rw [hA]
  have fd : ∀ u : World, (Instr.field 43 (.agg #[.int .i64 E, .int .u64 A]) 1).run Try.prog u = .ok (.int .u64 A) u := fun u => by kernel_rfl
  clear h ok hA hE
  go_enter Try.func33, Try.ntmps33
  refine post_hid fun Q hQ => ?_
  go_wp2_with (go_at_call 34; refine K.out.mono ?_; rintro e w1 ⟨rfl, hb⟩; have HB : Hid (Below w.heap.size w w1) := hb; clear hb)
  rw [hQ.out]
  go_ret
  exact ⟨rfl, HB.out⟩
set_option maxHeartbeats 1000000 in
theorem rday_any (p : Nat) (s : Cs) (w : World) (h : Rp w p s) (ok : OkC s) : Calls Try.prog 57 #[.pointer (some ⟨p, 0, none⟩)] w fun e w' => e = .returned (.int .i64 (dayI (s.x + s.e))) ∧ Below w.heap.size w w' := by
  obtain ⟨A, hA⟩ : ∃ t, atI (s.x + s.e) = t := ⟨_, rfl⟩
  obtain ⟨E, hE⟩ : ∃ t, eraI (s.x + s.e) = t := ⟨_, rfl⟩
  have K : Hid (Calls Try.prog 34 #[.pointer (some ⟨p, 0, none⟩)] w fun r w' => r = .returned (.agg #[.int .i64 E, .int .u64 A]) ∧ Below w.heap.size w w') := by
    rw [← hA, ← hE]; exact rdate_any p s w h ok
  have bA := atI_bd (s.x + s.e)
  have bE := eraI_bd ok.oxe
  rw [hA] at bA
  rw [hE] at bE
  have hx : (s.x + s.e) / 4294967296 = E * 4294967296 + A / 4294967296 := by rw [← hA, ← hE]; unfold eraI atI; omega
  obtain ⟨S, hS⟩ : ∃ S, E * 4294967296 + A / 4294967296 = S := ⟨_, rfl⟩
  have HD : Hid (dayI (s.x + s.e) = if S.tmod 86400 < 0 then S.tdiv 86400 - 1 else S.tdiv 86400) := by
    show _ = _
    unfold dayI
    rw [hx, hS]
    exact tdiv_fl S
  have m1 : wrap64 (E * 4294967296) = E * 4294967296 := w64i _ (by omega) (by omega)
  have m2 : wrap64 (A / 4294967296) = A / 4294967296 := w64i _ (by omega) (by omega)
  have m3 : wrap64 (E * 4294967296 + A / 4294967296) = S := by rw [w64i _ (by omega) (by omega)]; exact hS
  obtain ⟨T, hT⟩ : ∃ T, S.tdiv 86400 = T := ⟨_, rfl⟩
  obtain ⟨M, hM⟩ : ∃ T, S.tmod 86400 = T := ⟨_, rfl⟩
  have h1 := Int.mul_tdiv_add_tmod S 86400
  have h2 := Int.tmod_lt_of_pos S (show (0 : Int) < 86400 by decide)
  have h3 := Int.lt_tmod_of_pos S (show (0 : Int) < 86400 by decide)
  rw [hM] at h1 h2 h3
  rw [hT] at h1
  have m4 : wrap64 S = S := w64i _ (by omega) (by omega)
  have m5 : wrap64 T = T := w64i _ (by omega) (by omega)
  have m6 : wrap64 (T - 1) = T - 1 := w64i _ (by omega) (by omega)
  have m7 : wrap64 (T * 86400) = T * 86400 := w64i _ (by omega) (by omega)
  have m8 : S < T * 86400 ↔ M < 0 := by omega
  clear h1 h2 h3
  rw [HD.out, hM, hT]
  clear h ok hA hE HD hx bA bE
  by_cases h0 : M < 0
  all_goals
    first | rw [if_pos h0] | rw [if_neg h0]
    first | (have m9 : S < T * 86400 := m8.2 h0) | (have m9 : ¬ S < T * 86400 := fun h => h0 (m8.1 h))
    clear m8
    go_enter Try.func57, Try.ntmps57
    refine post_hid fun Q hQ => ?_
    go_wp2_with (first
      | (go_at_call 34; refine K.out.mono ?_; rintro e w1 ⟨rfl, hb⟩; have HB : Hid (Below w.heap.size w w1) := hb; clear hb))
    rw [hQ.out]
    go_ret
    exact ⟨ret_int' (by first | exact m6 | exact m5), HB.out.alloc HB.out.size _⟩
theorem rslew_any (p : Nat) (s : Cs) (d : Int) (w : World) (h : Rp w p s) (ok : OkC s) (hd : -9223372036854775808 ≤ d ∧ d ≤ 9223372036854775807) : Calls Try.prog 38 #[.pointer (some ⟨p, 0, none⟩), .int .i64 d] w fun e w' => e = .returned (.tuple #[]) ∧ Rp w' p (slewS s d) ∧ w.grownBy w' (some p) := by
  have HP : Hid (Rp w p s) := h
  have c2 : w.cell? ⟨p, 2, none⟩ = some (.int .i64 s.e) := h.cell 2
  have f2 : w.frozen? ⟨p, 2, none⟩ = false := h.frozen 2
  have K : Hid (∀ u, Calls Try.prog 58 #[.int .i64 s.e, .int .i64 d] u fun e w' => e = .returned (.int .i64 (sv (s.e + d))) ∧ Below u.heap.size u w') := fun u => radd_any _ _ u (by have := ok.e0; omega) (by have := ok.e1; omega) hd.1 hd.2
  clear h ok hd
  go_enter Try.func38, Try.ntmps38
  go_wp2_with (go_at_call 58; refine (K.out _).mono ?_; rintro e w1 ⟨rfl, hb⟩; have H1 : Hid (Rp w1 p s ∧ Below w.heap.size w w1) := ⟨Bk.kept HP.out (hb.block _ (Bk.lt HP.out)), hb⟩; clear hb; have d2 : w1.cell? ⟨p, 2, none⟩ = some (.int .i64 s.e) := (H1.out.1.cell 2); have g2 : w1.frozen? ⟨p, 2, none⟩ = false := (H1.out.1.frozen 2))
  go_end0
  exact ⟨rfl, H1.out.1.set (j := 2) _, grownBy_trans (grownBy_below H1.out.2 _) (grownBy_set _ ⟨p, 2, none⟩ _)⟩
theorem rsetFreq_any (p : Nat) (s : Cs) (d : Int) (w : World) (h : Rp w p s) (hd : -9223372036854775808 ≤ d ∧ d ≤ 9223372036854775807) : Calls Try.prog 39 #[.pointer (some ⟨p, 0, none⟩), .int .i64 d] w fun e w' => e = .returned (.tuple #[]) ∧ Rp w' p (sfS s d) ∧ w.grownBy w' (some p) := by
  have HP : Hid (Rp w p s) := h
  have c4 : w.cell? ⟨p, 4, none⟩ = some (.int .i64 s.f) := h.cell 4
  have f4 : w.frozen? ⟨p, 4, none⟩ = false := h.frozen 4
  clear h
  go_enter Try.func39, Try.ntmps39
  go_wp2_with (go_at_call 32; refine (rcutf_any _ _ hd.1 hd.2).mono ?_; rintro e w1 ⟨rfl, hb⟩; have H1 : Hid (Rp w1 p s ∧ Below w.heap.size w w1) := ⟨Bk.kept HP.out (hb.block _ (Bk.lt HP.out)), hb⟩; clear hb; have d2 : w1.cell? ⟨p, 4, none⟩ = some (.int .i64 s.f) := (H1.out.1.cell 4); have g2 : w1.frozen? ⟨p, 4, none⟩ = false := (H1.out.1.frozen 4))
  go_end0
  exact ⟨rfl, H1.out.1.set (j := 4) _, grownBy_trans (grownBy_below H1.out.2 _) (grownBy_set _ ⟨p, 4, none⟩ _)⟩
theorem rsetRate_any (p : Nat) (s : Cs) (d : Int) (w : World) (h : Rp w p s) (hd : -9223372036854775808 ≤ d ∧ d ≤ 9223372036854775807) : Calls Try.prog 40 #[.pointer (some ⟨p, 0, none⟩), .int .i64 d] w fun e w' => e = .returned (.tuple #[]) ∧ Rp w' p (srS s d) ∧ w.grownBy w' (some p) := by
  have HP : Hid (Rp w p s) := h
  have c4 : w.cell? ⟨p, 3, none⟩ = some (.int .i64 s.r) := h.cell 3
  have f4 : w.frozen? ⟨p, 3, none⟩ = false := h.frozen 3
  clear h
  go_enter Try.func40, Try.ntmps40
  go_wp2_with (go_at_call 32; refine (rcutf_any _ _ hd.1 hd.2).mono ?_; rintro e w1 ⟨rfl, hb⟩; have H1 : Hid (Rp w1 p s ∧ Below w.heap.size w w1) := ⟨Bk.kept HP.out (hb.block _ (Bk.lt HP.out)), hb⟩; clear hb; have d2 : w1.cell? ⟨p, 3, none⟩ = some (.int .i64 s.r) := (H1.out.1.cell 3); have g2 : w1.frozen? ⟨p, 3, none⟩ = false := (H1.out.1.frozen 3))
  go_end0
  exact ⟨rfl, H1.out.1.set (j := 3) _, grownBy_trans (grownBy_below H1.out.2 _) (grownBy_set _ ⟨p, 3, none⟩ _)⟩
theorem rsetLeap_any (p : Nat) (s : Cs) (n : Int) (w : World) (h : Rp w p s) : Calls Try.prog 41 #[.pointer (some ⟨p, 0, none⟩), .int .i64 n] w fun e w' => e = .returned (.bool (decide (0 ≤ n ∧ n ≤ 2))) ∧ Rp w' p (slS s n) ∧ w.grownBy w' (some p) := by
  have HP : Hid (Rp w p s) := h
  have c4 : w.cell? ⟨p, 6, none⟩ = some (.int .i64 s.l) := h.cell 6
  have f4 : w.frozen? ⟨p, 6, none⟩ = false := h.frozen 6
  clear h
  by_cases hn : 0 ≤ n ∧ n ≤ 2
  · rw [decide_eq_true hn, slS, if_pos hn]
    have n0 : ¬ n < 0 := by omega
    have n1 : ¬ 2 < n := by omega
    clear hn
    go_enter Try.func41, Try.ntmps41
    go_wp2
    go_ret
    exact ⟨rfl, HP.out.set (j := 6) _, grownBy_set _ ⟨p, 6, none⟩ _⟩
  · rw [decide_eq_false hn, slS, if_neg hn]
    by_cases n0 : n < 0
    · clear hn
      go_enter Try.func41, Try.ntmps41
      go_wp2
      go_ret
      exact ⟨rfl, HP.out, grownBy_below (Below.refl _ _) _⟩
    · have n1 : 2 < n := by omega
      clear hn
      go_enter Try.func41, Try.ntmps41
      go_wp2
      go_ret
      exact ⟨rfl, HP.out, grownBy_below (Below.refl _ _) _⟩
end Go.Proofs.Ytdmaaigchfgmdaa
