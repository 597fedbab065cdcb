/- clock: the reference's Pass. -/
import Derived.Test.YtdmaaigchfgmdaaCkI
namespace Go.Proofs.Ytdmaaigchfgmdaa
open Go Go.RowKit Go.Sort
set_option linter.unusedVariables false
theorem secS_zero {s : Cs} (h : s.l = 0) : secS s = one s := by
  unfold secS
  split
  · have e : lpE s.l (one s).e = (one s).e := by unfold lpE; rw [if_neg (by omega), if_neg (by omega)]
    rw [e]
    have : (0 : Int) = (one s).l := h.symm
    rw [this]
  · rfl
set_option maxRecDepth 20000 in
set_option maxHeartbeats 4000000 in
theorem rpass_any (p0 : Nat) (s : Cs) (n : Int) (w : World) (h : Rp w p0 s) (ok : OkC s) : Calls Try.prog 37 #[.pointer (some ⟨p0, 0, none⟩), .int .i64 n] w fun e w' => e = .returned (.int .i64 (if paE s n = true then 1 else 0)) ∧ Rp w' p0 (paS s n) ∧ w.grownBy w' (some p0) := by
  have HP : Hid (Rp w p0 s) := h
  have HO : Hid (OkC s) := ok
  have c7 : w.cell? ⟨p0, 7, none⟩ = some (.int .i64 s.n) := h.cell 7
  have w1 : wrap64 (1048576 - s.n) = 1048576 - s.n := w64i _ (by have := ok.n1; omega) (by have := ok.n0; omega)
  by_cases hn : n < 0
  · have e : paE s n = true := by unfold paE; rw [decide_eq_true hn]; rfl
    unfold paS
    rw [e, if_pos rfl, if_pos rfl]
    clear h ok e
    go_enter Try.func37, Try.ntmps37
    refine post_hid fun Q hQ => ?_
    go_wp2_with fail
    rw [hQ.out]
    go_ret
    exact ⟨rfl, HP.out, grownBy_below (Below.refl _ _) _⟩
  by_cases hm : 1048576 - s.n < n
  · have e : paE s n = true := by unfold paE; rw [decide_eq_true hm]; simp
    unfold paS
    rw [e, if_pos rfl, if_pos rfl]
    clear h ok e
    go_enter Try.func37, Try.ntmps37
    refine post_hid fun Q hQ => ?_
    go_wp2_with fail
    rw [hQ.out]
    go_ret
    exact ⟨rfl, HP.out, grownBy_below (Below.refl _ _) _⟩
  have e : paE s n = false := by unfold paE; rw [decide_eq_false hn, decide_eq_false hm]; rfl
  unfold paS
  rw [e, if_neg (by decide), if_neg (by decide)]
  have n1 : n ≤ 1048576 := by have := ok.n0; omega
  clear h ok e
  go_enter Try.func37, Try.ntmps37
  refine post_hid fun Q hQ => ?_
  go_wp2_with fail
  go_loopw [5] (fun i wr => ∃ (k : Nat), i = .int .i64 k ∧ (k : Int) ≤ n ∧ Hid (Rp wr p0 (passS s k) ∧ w.grownBy wr (some p0))) (fun i _ => (n - intOf i).toNat)
  case atStart => exact ⟨0, rfl, by omega, ⟨HP.out, grownBy_below (Below.refl _ _) _⟩⟩
  case round =>
    obtain ⟨k, rfl, hk, HS0⟩ := hrel
    by_cases hlt : (k : Int) < n
    · have kw : wrap64 ((k : Int) + 1) = k + 1 := w64i _ (by omega) (by omega)
      have ok : OkC (passS s k) := HO.out.pass k (by omega)
      have hn1 : (passS s k).n < 1048576 := by rw [pass_n]; omega
      obtain ⟨u, hu⟩ : ∃ u, passS s k = u := ⟨_, rfl⟩
      have HR : Hid (passS s (k + 1) = secS u ∧ Rp wr p0 u ∧ w.grownBy wr (some p0)) := ⟨by rw [passP_split, hu], by rw [← hu]; exact HS0.out.1, HS0.out.2⟩
      rw [hu] at ok hn1
      clear hu HS0 c7 w1
      obtain ⟨D0, hD0⟩ : ∃ D, dayI (u.x + u.e) = D := ⟨_, rfl⟩
      obtain ⟨D1, hD1⟩ : ∃ D, dayI ((one u).x + (one u).e) = D := ⟨_, rfl⟩
      obtain ⟨E, hE⟩ : ∃ E, eraI u.x = E := ⟨_, rfl⟩
      obtain ⟨A, hA⟩ : ∃ E, atI u.x = E := ⟨_, rfl⟩
      obtain ⟨E', hE'⟩ : ∃ E, eraI (u.x + 4294967296) = E := ⟨_, rfl⟩
      obtain ⟨A', hA'⟩ : ∃ E, atI (u.x + 4294967296) = E := ⟨_, rfl⟩
      obtain ⟨P, hP⟩ : ∃ M, u.r + u.f = M := ⟨_, rfl⟩
      obtain ⟨T, hT⟩ : ∃ M, u.q + P = M := ⟨_, rfl⟩
      obtain ⟨M, hM⟩ : ∃ M, T / 65536 = M := ⟨_, rfl⟩
      obtain ⟨N, hN⟩ : ∃ M, T % 65536 = M := ⟨_, rfl⟩
      obtain ⟨V, hV⟩ : ∃ V, sv (u.e + M) = V := ⟨_, rfl⟩
      have hone : one u = ⟨u.x + 4294967296, V, u.r, u.f, N, u.l, u.n + 1⟩ := by
        unfold one
        rw [show u.q + u.r + u.f = T from by omega, hM, hN, hV]
      have HX : Hid (csL (one u) = [.int .i64 E', .int .u64 A', .int .i64 V, .int .i64 u.r, .int .i64 u.f, .int .i64 N, .int .i64 u.l, .int .i64 (u.n + 1)] ∧ csL u = [.int .i64 E, .int .u64 A, .int .i64 u.e, .int .i64 u.r, .int .i64 u.f, .int .i64 u.q, .int .i64 u.l, .int .i64 u.n]) := ⟨by rw [hone]; unfold csL; simp only; rw [hE', hA'], by unfold csL; rw [hE, hA]⟩
      have HS : Hid (D0 < D1 → secS u = { one u with e := lpE u.l V, l := 0 }) := fun h => by unfold secS; rw [hD0, hD1, if_pos h, hone]
      have HS' : Hid (¬ D0 < D1 → secS u = one u) := fun h => by unfold secS; rw [hD0, hD1, if_neg h]
      have HZ : Hid (u.l = 0 → secS u = one u) := fun h => secS_zero h
      have KD : Hid (∀ v, Rp v p0 u → Calls Try.prog 57 #[.pointer (some ⟨p0, 0, none⟩)] v fun e w' => e = .returned (.int .i64 D0) ∧ Below v.heap.size v w') := fun v hv => by
        rw [← hD0]; exact rday_any p0 u v hv ok
      have KE : Hid (∀ v, Rp v p0 (one u) → Calls Try.prog 57 #[.pointer (some ⟨p0, 0, none⟩)] v fun e w' => e = .returned (.int .i64 D1) ∧ Below v.heap.size v w') := fun v hv => by
        rw [← hD1]; exact rday_any p0 (one u) v hv (ok.one hn1)
      have KL : Hid (∀ v, Calls Try.prog 56 #[.agg #[.int .i64 E, .int .u64 A], .int .i64 4294967296] v fun r w' => r = .returned (.agg #[.int .i64 E', .int .u64 A']) ∧ Below v.heap.size v w') := fun v => by
        have h := shifted_any u.x 4294967296 v ok.ox (by omega) (by omega)
        simp only [dtL] at h
        rw [hE, hA, hE', hA'] at h; exact h
      obtain ⟨a1, a2, a3, a4, a5, a6, a7, a8, a9, a10, a11, a12, a13, a14⟩ := ok
      have bV := sv_bd (u.e + M)
      rw [hV] at bV
      have KA : Hid (∀ v, Calls Try.prog 58 #[.int .i64 u.e, .int .i64 M] v fun e w' => e = .returned (.int .i64 V) ∧ Below v.heap.size v w') := fun v => by
        rw [← hV]
        exact radd_any _ _ v (by omega) (by omega) (by omega) (by omega)
      have KS : Hid (∀ v, Calls Try.prog 59 #[.int .i64 V, .int .i64 4294967296] v fun e w' => e = .returned (.int .i64 (sv (V - 4294967296))) ∧ Below v.heap.size v w') := fun v => rsub_any _ _ v (by omega) (by omega) (by omega) (by omega)
      have KT : Hid (∀ v, Calls Try.prog 58 #[.int .i64 V, .int .i64 4294967296] v fun e w' => e = .returned (.int .i64 (sv (V + 4294967296))) ∧ Below v.heap.size v w') := fun v => radd_any _ _ v (by omega) (by omega) (by omega) (by omega)
      have w1 : wrap64 (u.n + 1) = u.n + 1 := w64i _ (by omega) (by omega)
      have w2 : IntKind.i64.wrap (u.r + u.f) = P := by rw [IntWalk.i64_left, w64i _ (by omega) (by omega)]; exact hP
      have w3 : IntKind.i64.wrap (u.q + P) = T := by rw [IntWalk.i64_left, w64i _ (by omega) (by omega)]; exact hT
      have m1 : wrap64 (M * 65536) = M * 65536 := w64i _ (by omega) (by omega)
      have m3 : T - M * 65536 = N := by omega
      have m2 : wrap64 N = N := w64i _ (by omega) (by omega)
      have l0 : Hid (0 ≤ u.l ∧ u.l ≤ 2) := ⟨a11, a12⟩
      have w2' : wrap64 (u.r + u.f) = P := by rw [w64i _ (by omega) (by omega)]; exact hP
      have w3' : wrap64 (u.q + P) = T := by rw [w64i _ (by omega) (by omega)]; exact hT
      have HO1 : Hid (0 ≤ u.n) := a13
      have HWF : Hid (w.grownBy wr (some p0) ∧ Bk p0 wr [.int .i64 E, .int .u64 A, .int .i64 u.e, .int .i64 u.r, .int .i64 u.f, .int .i64 u.q, .int .i64 u.l, .int .i64 u.n].toArray 67) := ⟨HR.out.2.2, by rw [← HX.out.2]; exact HR.out.2.1⟩
      have HRU : Hid (Rp wr p0 u) := HR.out.2.1
      have HRE : Hid (passS s (k + 1) = secS u) := HR.out.1
      clear HR hn1 hD0 hD1 hE hA hE' hA' hP hT hN hV hone a1 a2 a3 a4 a5 a6 a7 a8 a9 a10 a11 a12 a13 a14 bV
      obtain ⟨ux, ue, ur, uf, uq, ul, un⟩ := u
      simp only at *
      go_upto_region 9 with (first
        | (go_at_call 57; refine (KD.out _ HRU.out).mono ?_; rintro e w2 ⟨rfl, hb⟩; have H2 : Hid (w.grownBy w2 (some p0) ∧ Bk p0 w2 [.int .i64 E, .int .u64 A, .int .i64 ue, .int .i64 ur, .int .i64 uf, .int .i64 uq, .int .i64 ul, .int .i64 un].toArray 67) := ⟨grownBy_trans HWF.out.1 (grownBy_below hb _), Bk.kept HWF.out.2 (hb.block _ (Bk.lt HWF.out.2))⟩; clear hb; have c0 : w2.cell? ⟨p0, 0, none⟩ = some (.int .i64 E) := (H2.out.2.cell 0); have c1 : w2.cell? ⟨p0, 1, none⟩ = some (.int .u64 A) := (H2.out.2.cell 1))
        | (go_at_call 56; refine (KL.out _).mono ?_; rintro e w3 ⟨rfl, hb⟩; have H3 : Hid (w.grownBy w3 (some p0) ∧ Bk p0 w3 [.int .i64 E, .int .u64 A, .int .i64 ue, .int .i64 ur, .int .i64 uf, .int .i64 uq, .int .i64 ul, .int .i64 un].toArray 67) := ⟨grownBy_trans H2.out.1 (grownBy_below hb _), Bk.kept H2.out.2 (hb.block _ (Bk.lt H2.out.2))⟩; clear hb c0 c1; have c0 : w3.cell? ⟨p0, 0, none⟩ = some (.int .i64 E) := (H3.out.2.cell 0); have c1 : w3.cell? ⟨p0, 1, none⟩ = some (.int .u64 A) := (H3.out.2.cell 1); have f0 : w3.frozen? ⟨p0, 0, none⟩ = false := (H3.out.2.frozen 0); have f1 : w3.frozen? ⟨p0, 1, none⟩ = false := (H3.out.2.frozen 1); have c7 : w3.cell? ⟨p0, 7, none⟩ = some (.int .i64 un) := (H3.out.2.cell 7); have f7 : w3.frozen? ⟨p0, 7, none⟩ = false := (H3.out.2.frozen 7)))
      refine world_hid fun w4 hW4 => ?_
      have H4 : Hid (w.grownBy w4 (some p0) ∧ Bk p0 w4 [.int .i64 E', .int .u64 A', .int .i64 ue, .int .i64 ur, .int .i64 uf, .int .i64 uq, .int .i64 ul, .int .i64 (un + 1)].toArray 67) := by
        rw [hW4.out]
        exact ⟨grownBy_trans H3.out.1 (grownBy_trans (grownBy_set _ ⟨p0, 0, none⟩ _) (grownBy_trans (grownBy_set _ ⟨p0, 1, none⟩ _) (grownBy_set _ ⟨p0, 7, none⟩ _))), ((H3.out.2.set (j := 0) _).set (j := 1) _).set (j := 7) _⟩
      clear hW4 c0 c1 f0 f1 c7 f7 H3 H2 KL KD HRU HWF
      have HL : Hid (w4.drew.cell? ⟨p0, 3, none⟩ = some (.int .i64 ur) ∧ w4.drew.cell? ⟨p0, 4, none⟩ = some (.int .i64 uf) ∧ w4.drew.cell? ⟨p0, 5, none⟩ = some (.int .i64 uq)) := ⟨H4.out.2.cell 3, H4.out.2.cell 4, H4.out.2.cell 5⟩
      refine wp_region_lastH (S := fun w' => w'.cell? ⟨p0, 3, none⟩ = some (.int .i64 ur) ∧ w'.cell? ⟨p0, 4, none⟩ = some (.int .i64 uf) ∧ w'.cell? ⟨p0, 5, none⟩ = some (.int .i64 uq)) (by kernel_rfl) (by kernel_rfl) (by rfl) (HL.out) (fun hHeld => ?_)
      simp only [idleLast, idle]
      refine wpAnyH_takeD (some 41) (i := 0) (v := ?_) rfl (by kernel_rfl) (by kernel_rfl) (by kernel_rfl) (fun _ _ _ h => h) (Or.inl ⟨by rfl, ?_⟩) (by assumption) rfl ?_
      rotate_left
      · (intro w hSw; (try dsimp only at hSw); go_split_ands; go_simp; first | done | with_reducible rfl)
      simp only [Act.put, List.setIfInBounds_toArray, List.set_cons_zero, List.set_cons_succ]
      refine wpAnyH_takeD (some 42) (i := 1) (v := ?_) rfl (by kernel_rfl) (by kernel_rfl) (by kernel_rfl) (fun _ _ _ h => h) (Or.inl ⟨by rfl, ?_⟩) (by assumption) rfl ?_
      rotate_left
      · (intro w hSw; (try dsimp only at hSw); go_split_ands; go_simp; first | done | with_reducible rfl)
      simp only [Act.put, List.setIfInBounds_toArray, List.set_cons_zero, List.set_cons_succ]
      refine wpAnyH_takeD (some 43) (i := 2) (v := ?_) rfl (by kernel_rfl) (by kernel_rfl) (by kernel_rfl) (fun _ _ _ h => h) (Or.inl ⟨by rfl, ?_⟩) (by assumption) rfl ?_
      rotate_left
      · (intro w hSw; (try dsimp only at hSw); go_split_ands; go_simp; first | done | with_reducible rfl)
      simp only [Act.put, List.setIfInBounds_toArray, List.set_cons_zero, List.set_cons_succ]
      refine wpAnyH_takeD (some 44) (i := 3) (v := ?_) rfl (by kernel_rfl) (by kernel_rfl) (by kernel_rfl) (fun _ _ _ h => h) (Or.inl ⟨by rfl, ?_⟩) (by assumption) rfl ?_
      rotate_left
      · (intro w hSw; (try dsimp only at hSw); go_split_ands; go_simp; first | done | with_reducible rfl)
      simp only [Act.put, List.setIfInBounds_toArray, List.set_cons_zero, List.set_cons_succ]
      refine wpAnyH_takeD (some 45) (i := 4) (v := ?_) rfl (by kernel_rfl) (by kernel_rfl) (by kernel_rfl) (fun _ _ _ h => h) (Or.inl ⟨by rfl, ?_⟩) (by assumption) rfl ?_
      rotate_left
      · (intro w hSw; (try dsimp only at hSw); go_split_ands; go_simp; first | done | with_reducible rfl)
      simp only [Act.put, List.setIfInBounds_toArray, List.set_cons_zero, List.set_cons_succ]
      refine wpAnyH_takeD (some 46) (i := 5) (v := ?_) rfl (by kernel_rfl) (by kernel_rfl) (by kernel_rfl) (fun _ _ _ h => h) (Or.inl ⟨by rfl, ?_⟩) (by assumption) rfl ?_
      rotate_left
      · (intro w hSw; (try dsimp only at hSw); go_split_ands; go_simp; first | done | with_reducible rfl)
      simp only [Act.put, List.setIfInBounds_toArray, List.set_cons_zero, List.set_cons_succ]
      refine wpAnyH_takeD (some 47) (i := 6) (v := ?_) rfl (by kernel_rfl) (by kernel_rfl) (by kernel_rfl) (fun _ _ _ h => h) (Or.inl ⟨by rfl, ?_⟩) (by assumption) rfl ?_
      rotate_left
      · (intro w hSw; (try dsimp only at hSw); go_split_ands; go_simp; first | done | with_reducible rfl)
      simp only [Act.put, List.setIfInBounds_toArray, List.set_cons_zero, List.set_cons_succ]
      refine wpAnyH_takeD (some 48) (i := 7) (v := ?_) rfl (by kernel_rfl) (by kernel_rfl) (by kernel_rfl) (fun _ _ _ h => h) (Or.inl ⟨by rfl, ?_⟩) (by assumption) rfl ?_
      rotate_left
      · (intro w hSw; (try dsimp only at hSw); go_split_ands; go_simp; first | done | with_reducible rfl)
      simp only [Act.put, List.setIfInBounds_toArray, List.set_cons_zero, List.set_cons_succ]
      refine wpAnyH_takeD (some 49) (i := 8) (v := ?_) rfl (by kernel_rfl) (by kernel_rfl) (by kernel_rfl) (fun _ _ _ h => h) (Or.inl ⟨by rfl, ?_⟩) (by assumption) rfl ?_
      rotate_left
      · (intro w hSw; (try dsimp only at hSw); go_split_ands; go_simp; first | done | with_reducible rfl)
      simp only [Act.put, List.setIfInBounds_toArray, List.set_cons_zero, List.set_cons_succ]
      refine wpAnyH_takeD (some 50) (i := 9) (v := ?_) rfl (by kernel_rfl) (by kernel_rfl) (by kernel_rfl) (fun _ _ _ h => h) (Or.inl ⟨by rfl, ?_⟩) (by assumption) rfl ?_
      rotate_left
      · (intro w hSw; (try dsimp only at hSw); go_split_ands; go_simp; first | done | with_reducible rfl)
      simp only [Act.put, List.setIfInBounds_toArray, List.set_cons_zero, List.set_cons_succ]
      refine wpAnyH_takeD (some 51) (i := 10) (v := ?_) rfl (by kernel_rfl) (by kernel_rfl) (by kernel_rfl) (fun _ _ _ h => h) (Or.inl ⟨by rfl, ?_⟩) (by assumption) rfl ?_
      rotate_left
      · (intro w hSw; (try dsimp only at hSw); go_split_ands; go_simp; first | done | with_reducible rfl)
      simp only [Act.put, List.setIfInBounds_toArray, List.set_cons_zero, List.set_cons_succ]
      refine wpAnyH_takeD (some 52) (i := 11) (v := ?_) rfl (by kernel_rfl) (by kernel_rfl) (by kernel_rfl) (fun _ _ _ h => h) (Or.inl ⟨by rfl, ?_⟩) (by assumption) rfl ?_
      rotate_left
      · (intro w hSw; (try dsimp only at hSw); go_split_ands; go_simp; first | done | with_reducible rfl)
      simp only [Act.put, List.setIfInBounds_toArray, List.set_cons_zero, List.set_cons_succ]
      refine wpAnyH_takeD (some 53) (i := 12) (v := ?_) rfl (by kernel_rfl) (by kernel_rfl) (by kernel_rfl) (fun _ _ _ h => h) (Or.inl ⟨by rfl, ?_⟩) (by assumption) rfl ?_
      rotate_left
      · (intro w hSw; (try dsimp only at hSw); go_split_ands; go_simp; first | done | with_reducible rfl)
      simp only [Act.put, List.setIfInBounds_toArray, List.set_cons_zero, List.set_cons_succ]
      refine wpAnyH_takeD (some 54) (i := 13) (v := ?_) rfl (by kernel_rfl) (by kernel_rfl) (by kernel_rfl) (fun _ _ _ h => h) (Or.inl ⟨by rfl, ?_⟩) (by assumption) rfl ?_
      rotate_left
      · (intro w hSw; (try dsimp only at hSw); go_split_ands; go_simp; first | done | with_reducible rfl)
      simp only [Act.put, List.setIfInBounds_toArray, List.set_cons_zero, List.set_cons_succ]
      refine wpAnyH_takeD (some 55) (i := 14) (v := ?_) rfl (by kernel_rfl) (by kernel_rfl) (by kernel_rfl) (fun _ _ _ h => h) (Or.inl ⟨by rfl, ?_⟩) (by assumption) rfl ?_
      rotate_left
      · (intro w hSw; (try dsimp only at hSw); go_split_ands; go_simp; first | done | with_reducible rfl)
      simp only [Act.put, List.setIfInBounds_toArray, List.set_cons_zero, List.set_cons_succ]
      refine wpAnyH_takeD (some 56) (i := 15) (v := ?_) rfl (by kernel_rfl) (by kernel_rfl) (by kernel_rfl) (fun _ _ _ h => h) (Or.inl ⟨by rfl, ?_⟩) (by assumption) rfl ?_
      rotate_left
      · (intro w hSw; (try dsimp only at hSw); go_split_ands; go_simp; first | done | with_reducible rfl)
      simp only [Act.put, List.setIfInBounds_toArray, List.set_cons_zero, List.set_cons_succ]
      refine wpAnyH_idle (i := 16) (v := .bool true) rfl (by kernel_rfl) (by kernel_rfl) (by kernel_rfl) (fun _ _ _ h => h) (Or.inl ⟨by rfl, fun _ _ => rfl⟩) (by assumption) rfl ?_
      refine wpAnyH_done (by kernel_rfl) ?_ _
      refine lastQ_of _ rfl ?_
      have H4d : Hid (w.grownBy w4.drew (some p0) ∧ Bk p0 w4.drew [.int .i64 E', .int .u64 A', .int .i64 ue, .int .i64 ur, .int .i64 uf, .int .i64 uq, .int .i64 ul, .int .i64 (un + 1)].toArray 67) := ⟨grownBy_trans H4.out.1 (grownBy_drew _ _), Bk.kept H4.out.2 rfl⟩
      refine step_st1 (by rfl) _ _ rfl p0 5 (.int .i64 T) (by rfl) (by simp [Act.eval]) (by rfl) (by kernel_rfl) (by rfl) [.int .i64 E', .int .u64 A', .int .i64 ue, .int .i64 ur, .int .i64 uf, .int .i64 uq, .int .i64 ul, .int .i64 (un + 1)] (by simp) H4d.out.2 ?_
      intro w5 H5
      have H6 : Hid (w.grownBy w5 (some p0) ∧ Bk p0 w5 ([.int .i64 E', .int .u64 A', .int .i64 ue, .int .i64 ur, .int .i64 uf, .int .i64 uq, .int .i64 ul, .int .i64 (un + 1)].set 5 (.int .i64 T)).toArray 67) := ⟨grownBy_trans H4d.out.1 H5.out.gr, H5.out.bk⟩
      simp only [put_none, wpList]
      clear H5 H4 H4d HL
      have c5 : w5.cell? ⟨p0, 5, none⟩ = some (.int .i64 T) := H6.out.2.cell 5
      have f5 : w5.frozen? ⟨p0, 5, none⟩ = false := H6.out.2.frozen 5
      have c2 : w5.cell? ⟨p0, 2, none⟩ = some (.int .i64 ue) := H6.out.2.cell 2
      go_upto_region 13 with (go_at_call 58; refine (KA.out _).mono ?_; rintro e w6 ⟨rfl, hb⟩; have H7 : Hid (w.grownBy w6 (some p0) ∧ Bk p0 w6 [.int .i64 E', .int .u64 A', .int .i64 ue, .int .i64 ur, .int .i64 uf, .int .i64 N, .int .i64 ul, .int .i64 (un + 1)].toArray 67) := ⟨grownBy_trans H6.out.1 (grownBy_trans (grownBy_set _ ⟨p0, 5, none⟩ _) (grownBy_below hb _)), Bk.kept (H6.out.2.set (j := 5) _) (hb.block _ (Bk.lt (H6.out.2.set (j := 5) _)))⟩; clear hb c5 f5 c2; have c2 : w6.cell? ⟨p0, 2, none⟩ = some (.int .i64 ue) := (H7.out.2.cell 2); have f2 : w6.frozen? ⟨p0, 2, none⟩ = false := (H7.out.2.frozen 2))
      refine world_hid fun w7 hW7 => ?_
      have H8 : Hid (w.grownBy w7 (some p0) ∧ Rp w7 p0 (one ⟨ux, ue, ur, uf, uq, ul, un⟩)) := by
        rw [hW7.out]
        refine ⟨grownBy_trans H7.out.1 (grownBy_set _ ⟨p0, 2, none⟩ _), ?_⟩
        show Bk _ _ _ _
        rw [HX.out.1]
        exact H7.out.2.set (j := 2) _
      clear hW7 c2 f2 H7 H6 KA
      have c6 : w7.cell? ⟨p0, 6, none⟩ = some (.int .i64 ul) := H8.out.2.cell 6
      by_cases hz : ul = 0
      · have HF : Hid (passS s (k + 1) = one ⟨ux, ue, ur, uf, uq, ul, un⟩) := by show _ = _; rw [HRE.out, HZ.out hz]
        rw [hz] at c6
        go_wp2_with fail
        go_roundw
        case rel => exact ⟨k + 1, by go_num, by omega, ⟨by rw [HF.out]; exact H8.out.2, H8.out.1⟩⟩
        case measure => simp [intOf]; omega
      by_cases hd : D0 < D1
      · have HF : Hid (passS s (k + 1) = { one ⟨ux, ue, ur, uf, uq, ul, un⟩ with e := lpE ul V, l := 0 }) := by show _ = _; rw [HRE.out, HS.out hd]
        have HV : Hid (csL (one ⟨ux, ue, ur, uf, uq, ul, un⟩) = [.int .i64 E', .int .u64 A', .int .i64 V, .int .i64 ur, .int .i64 uf, .int .i64 N, .int .i64 ul, .int .i64 (un + 1)]) := HX.out.1
        by_cases h1 : ul = 1
        · have HG : Hid (lpE ul V = sv (V - 4294967296)) := by show _ = _; unfold lpE; rw [if_pos h1]
          clear l0
          rw [h1] at c6
          go_wp2_with (first
            | (go_at_call 57; refine (KE.out _ H8.out.2).mono ?_; rintro e w8 ⟨rfl, hb⟩; have H9 : Hid (w.grownBy w8 (some p0) ∧ Bk p0 w8 [.int .i64 E', .int .u64 A', .int .i64 V, .int .i64 ur, .int .i64 uf, .int .i64 N, .int .i64 ul, .int .i64 (un + 1)].toArray 67) := ⟨grownBy_trans H8.out.1 (grownBy_below hb _), by rw [← HV.out]; exact Bk.kept H8.out.2 (hb.block _ (Bk.lt H8.out.2))⟩; clear hb c6; have c6 : w8.cell? ⟨p0, 6, none⟩ = some (.int .i64 1) := (by rw [← h1]; exact H9.out.2.cell 6); have c2 : w8.cell? ⟨p0, 2, none⟩ = some (.int .i64 V) := (H9.out.2.cell 2))
            | (go_at_call 59; refine (KS.out _).mono ?_; rintro e w9 ⟨rfl, hb⟩; have HA : Hid (w.grownBy w9 (some p0) ∧ Bk p0 w9 [.int .i64 E', .int .u64 A', .int .i64 V, .int .i64 ur, .int .i64 uf, .int .i64 N, .int .i64 ul, .int .i64 (un + 1)].toArray 67) := ⟨grownBy_trans H9.out.1 (grownBy_below hb _), Bk.kept H9.out.2 (hb.block _ (Bk.lt H9.out.2))⟩; clear hb c6 c2; have c6 : w9.cell? ⟨p0, 6, none⟩ = some (.int .i64 ul) := (HA.out.2.cell 6); have c2 : w9.cell? ⟨p0, 2, none⟩ = some (.int .i64 V) := (HA.out.2.cell 2); have f6 : w9.frozen? ⟨p0, 6, none⟩ = false := (HA.out.2.frozen 6); have f2 : w9.frozen? ⟨p0, 2, none⟩ = false := (HA.out.2.frozen 2)))
          go_roundw
          case rel =>
            refine ⟨k + 1, by go_num, by omega, ⟨?_, grownBy_trans HA.out.1 (grownBy_trans (grownBy_set _ ⟨p0, 2, none⟩ _) (grownBy_set _ ⟨p0, 6, none⟩ _))⟩⟩
            rw [HF.out, HG.out]
            show Bk _ _ (csL ⟨_, _, _, _, _, _, _⟩).toArray _
            have h5 := (HA.out.2.set (j := 2) (.int .i64 (sv (V - 4294967296)))).set (j := 6) (.int .i64 0)
            have h6 := HV.out
            unfold csL at h6 ⊢
            simp only [List.cons.injEq, Value.int.injEq] at h6
            simp only
            rw [h6.1.2, h6.2.1.2, h6.2.2.2.1.2, h6.2.2.2.2.1.2, h6.2.2.2.2.2.1.2, h6.2.2.2.2.2.2.2.1.2]
            exact h5
          case measure => simp [intOf]; omega
        · have HG : Hid (lpE ul V = sv (V + 4294967296)) := by show _ = _; unfold lpE; rw [if_neg h1, if_pos (by have := l0.out; omega)]
          go_wp2_with (first
            | (go_at_call 57; refine (KE.out _ H8.out.2).mono ?_; rintro e w8 ⟨rfl, hb⟩; have H9 : Hid (w.grownBy w8 (some p0) ∧ Bk p0 w8 [.int .i64 E', .int .u64 A', .int .i64 V, .int .i64 ur, .int .i64 uf, .int .i64 N, .int .i64 ul, .int .i64 (un + 1)].toArray 67) := ⟨grownBy_trans H8.out.1 (grownBy_below hb _), by rw [← HV.out]; exact Bk.kept H8.out.2 (hb.block _ (Bk.lt H8.out.2))⟩; clear hb c6; have c6 : w8.cell? ⟨p0, 6, none⟩ = some (.int .i64 ul) := (H9.out.2.cell 6); have c2 : w8.cell? ⟨p0, 2, none⟩ = some (.int .i64 V) := (H9.out.2.cell 2))
            | (go_at_call 58; refine (KT.out _).mono ?_; rintro e w9 ⟨rfl, hb⟩; have HA : Hid (w.grownBy w9 (some p0) ∧ Bk p0 w9 [.int .i64 E', .int .u64 A', .int .i64 V, .int .i64 ur, .int .i64 uf, .int .i64 N, .int .i64 ul, .int .i64 (un + 1)].toArray 67) := ⟨grownBy_trans H9.out.1 (grownBy_below hb _), Bk.kept H9.out.2 (hb.block _ (Bk.lt H9.out.2))⟩; clear hb c6 c2; have c6 : w9.cell? ⟨p0, 6, none⟩ = some (.int .i64 ul) := (HA.out.2.cell 6); have c2 : w9.cell? ⟨p0, 2, none⟩ = some (.int .i64 V) := (HA.out.2.cell 2); have f6 : w9.frozen? ⟨p0, 6, none⟩ = false := (HA.out.2.frozen 6); have f2 : w9.frozen? ⟨p0, 2, none⟩ = false := (HA.out.2.frozen 2)))
          go_roundw
          case rel =>
            refine ⟨k + 1, by go_num, by omega, ⟨?_, grownBy_trans HA.out.1 (grownBy_trans (grownBy_set _ ⟨p0, 2, none⟩ _) (grownBy_set _ ⟨p0, 6, none⟩ _))⟩⟩
            rw [HF.out, HG.out]
            show Bk _ _ (csL ⟨_, _, _, _, _, _, _⟩).toArray _
            have h5 := (HA.out.2.set (j := 2) (.int .i64 (sv (V + 4294967296)))).set (j := 6) (.int .i64 0)
            have h6 := HV.out
            unfold csL at h6 ⊢
            simp only [List.cons.injEq, Value.int.injEq] at h6
            simp only
            rw [h6.1.2, h6.2.1.2, h6.2.2.2.1.2, h6.2.2.2.2.1.2, h6.2.2.2.2.2.1.2, h6.2.2.2.2.2.2.2.1.2]
            exact h5
          case measure => simp [intOf]; omega
      · have HF : Hid (passS s (k + 1) = one ⟨ux, ue, ur, uf, uq, ul, un⟩) := by show _ = _; rw [HRE.out, HS'.out (by omega)]
        go_wp2_with (first
          | (go_at_call 57; refine (KE.out _ H8.out.2).mono ?_; rintro e w8 ⟨rfl, hb⟩; have H9 : Hid (w.grownBy w8 (some p0) ∧ Rp w8 p0 (one ⟨ux, ue, ur, uf, uq, ul, un⟩)) := ⟨grownBy_trans H8.out.1 (grownBy_below hb _), Bk.kept H8.out.2 (hb.block _ (Bk.lt H8.out.2))⟩; clear hb))
        go_roundw
        case rel => exact ⟨k + 1, by go_num, by omega, ⟨by rw [HF.out]; exact H9.out.2, H9.out.1⟩⟩
        case measure => simp [intOf]; omega
    · have ek : Hid (n.toNat = k) := by show _ = _; omega
      go_wp2_with fail
      rw [hQ.out]
      go_ret
      exact ⟨rfl, by rw [ek.out]; exact HS0.out.1, HS0.out.2⟩
end Go.Proofs.Ytdmaaigchfgmdaa
