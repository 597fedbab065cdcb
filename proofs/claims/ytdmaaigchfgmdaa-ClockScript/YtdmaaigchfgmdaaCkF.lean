/- clock: a second; Pass; New. -/
import Derived.Test.YtdmaaigchfgmdaaCkE
namespace Go.Proofs.Ytdmaaigchfgmdaa
open Go Go.RowKit Go.Sort
set_option linter.unusedVariables false
def tikS (s : Cs) : Cs := { s with n := s.n + 1, x := s.x + 4294967296 }
theorem tik_one (s : Cs) : one s = { beatS (tikS s) with e := sv (s.e + (s.q + s.r + s.f) / 65536) } := rfl
theorem OkC.tik {s : Cs} (h : OkC s) (hn : s.n < 1048576) : OkC (tikS s) := by
  obtain ⟨a1, a2, a3, a4, a5, a6, a7, a8, a9, a10, a11, a12, a13, a14⟩ := h
  constructor <;> simp only [tikS] <;> omega
set_option maxHeartbeats 1000000 in
theorem second_any (p0 : Nat) (s : Cs) (w : World) (h : Po w p0 s) (ok : OkC s) (hn : s.n < 1048576) : Calls Try.prog 28 #[.pointer (some ⟨p0, 0, none⟩)] w fun e w' => e = .returned (.tuple #[]) ∧ Po w' p0 (secS s) ∧ w.grownBy w' (some p0) := by
  have HO : Hid (OkC s ∧ s.n < 1048576) := ⟨ok, hn⟩
  have b1 := ok.oxe
  obtain ⟨D0, hD0⟩ : ∃ D, dayI (s.x + s.e) = D := ⟨_, rfl⟩
  obtain ⟨D1, hD1⟩ : ∃ D, dayI ((one s).x + (one s).e) = D := ⟨_, rfl⟩
  obtain ⟨E, hE⟩ : ∃ E, eraI s.x = E := ⟨_, rfl⟩
  obtain ⟨A, hA⟩ : ∃ E, atI s.x = E := ⟨_, rfl⟩
  obtain ⟨E', hE'⟩ : ∃ E, eraI (s.x + 4294967296) = E := ⟨_, rfl⟩
  obtain ⟨A', hA'⟩ : ∃ E, atI (s.x + 4294967296) = E := ⟨_, rfl⟩
  obtain ⟨M, hM⟩ : ∃ M, (s.q + s.r + s.f) / 65536 = M := ⟨_, rfl⟩
  obtain ⟨V, hV⟩ : ∃ V, sv (s.e + M) = V := ⟨_, rfl⟩
  have HX : Hid (one s = { beatS (tikS s) with e := V } ∧ (csL s).set 7 (.int .i64 (s.n + 1)) = csL { s with n := s.n + 1 } ∧ csL (tikS s) = [.int .i64 E', .int .u64 A', .int .i64 s.e, .int .i64 s.r, .int .i64 s.f, .int .i64 s.q, .int .i64 s.l, .int .i64 (s.n + 1)]) := ⟨by rw [tik_one, hM, hV], rfl, by unfold csL tikS; simp only; rw [hE', hA']⟩
  have HS : Hid (secS s = if D0 < D1 then { one s with e := lpE s.l (one s).e, l := 0 } else one s) := by show _ = _; unfold secS; rw [hD0, hD1]
  have KD : Hid (Calls Try.prog 46 #[.iface 27 (.pointer (some ⟨p0, 0, none⟩))] w fun e w' => e = .returned (.int .i64 D0) ∧ Below w.heap.size w w') := by
    rw [← hD0]; exact dayOf_any p0 s w h ok
  have KE : Hid (∀ u, Po u p0 (one s) → Calls Try.prog 46 #[.iface 27 (.pointer (some ⟨p0, 0, none⟩))] u fun e w' => e = .returned (.int .i64 D1) ∧ Below u.heap.size u w') := fun u hu => by
    rw [← hD1]; exact dayOf_any p0 (one s) u hu (ok.one hn)
  have KL : Hid (∀ u, Calls Try.prog 29 #[.agg #[.int .i64 E, .int .u64 A], .int .i64 4294967296] u fun r w' => r = .returned (.agg #[.int .i64 E', .int .u64 A']) ∧ Below u.heap.size u w') := fun u => by
    have h := later_any s.x 4294967296 u ok.ox (by omega) (by omega)
    simp only [dtL] at h
    rw [hE, hA, hE', hA'] at h; exact h
  have KB : Hid (∀ u, Po u p0 (tikS s) → Calls Try.prog 87 #[.pointer (some ⟨p0, 3, none⟩)] u fun e w' => e = .returned (.int .i64 M) ∧ Po w' p0 (beatS (tikS s)) ∧ u.grownBy w' (some p0)) := fun u hu => by
    rw [← hM]; exact beat_any p0 (tikS s) u hu (ok.tik hn)
  have KA : Hid (∀ u, Calls Try.prog 27 #[.int .i64 s.e, .int .i64 M] u fun e w' => e = .returned (.int .i64 V) ∧ w' = u) := fun u => by
    rw [← hV]
    obtain ⟨a1, a2, a3, a4, a5, a6, a7, a8, a9, a10, a11, a12, a13, a14⟩ := ok
    exact add_any _ _ u (by omega) (by omega) (by omega) (by omega)
  have KP : Hid (∀ u, Po u p0 (one s) → Calls Try.prog 48 #[.iface 27 (.pointer (some ⟨p0, 0, none⟩)), .int .i64 s.l] u fun e w' => e = .returned (.tuple #[]) ∧ Po w' p0 { one s with e := lpE s.l (one s).e } ∧ u.grownBy w' (some p0)) := fun u hu => leapBy_any p0 (one s) u hu (ok.one hn)
  have HP : Hid (Po w p0 s ∧ eraI s.x = E ∧ atI s.x = A) := ⟨h, hE, hA⟩
  have w1 : wrap64 (s.n + 1) = s.n + 1 := w64i _ (by have := ok.n0; omega) (by omega)
  clear h ok hn hD0 hD1 hE hA hE' hA' hM hV b1
  rw [HS.out]
  go_enter Try.func28, Try.ntmps28
  refine post_hid fun Q hQ => ?_
  refine seq_hid fun R hR => ?_
  go_wp2_with (go_at_call 46; refine KD.out.mono ?_; rintro e wa ⟨rfl, hb⟩; have Ha : Hid (Po wa p0 s ∧ w.grownBy wa (some p0)) := ⟨Bk.kept HP.out.1 (hb.block _ (Bk.lt HP.out.1)), grownBy_below hb _⟩; clear hb)
  rw [hR.out]
  clear hR KD
  have c7 : wa.cell? ⟨p0, 7, none⟩ = some (.int .i64 s.n) := Ha.out.1.cell 7
  refine seq_hid fun R hR => ?_
  go_wp2_with (refine step_st1 (by rfl) _ _ rfl p0 7 (.int .i64 (s.n + 1)) (by rfl) (by simp [Act.eval, w1]) (by rfl) (by kernel_rfl) (by rfl) (csL s) (by simp [csL]) Ha.out.1 ?_; intro wb hb; have Hb : Hid (Bk p0 wb (csL { s with n := s.n + 1 }).toArray 64 ∧ w.grownBy wb (some p0)) := ⟨hb.out.bk, grownBy_trans Ha.out.2 hb.out.gr⟩; clear hb)
  rw [hR.out]
  clear hR c7 Ha w1
  have c0 : wb.cell? ⟨p0, 0, none⟩ = some (.int .i64 E) := by rw [← HP.out.2.1]; exact Hb.out.1.cell 0
  have c1 : wb.cell? ⟨p0, 1, none⟩ = some (.int .u64 A) := by rw [← HP.out.2.2]; exact Hb.out.1.cell 1
  refine seq_hid fun R hR => ?_
  go_wp2_with (go_at_call 29; refine (KL.out _).mono ?_; rintro e wc ⟨rfl, hb⟩; have Hc : Hid (Bk p0 wc (csL { s with n := s.n + 1 }).toArray 64 ∧ w.grownBy wc (some p0)) := ⟨Bk.kept Hb.out.1 (hb.block _ (Bk.lt Hb.out.1)), grownBy_trans Hb.out.2 (grownBy_below hb _)⟩; clear hb; have f0 : wc.frozen? ⟨p0, 0, none⟩ = false := Hc.out.1.frozen 0; have f1 : wc.frozen? ⟨p0, 1, none⟩ = false := Hc.out.1.frozen 1; have d0 : wc.cell? ⟨p0, 0, none⟩ = some (.int .i64 E) := (by rw [← HP.out.2.1]; exact Hc.out.1.cell 0); have d1 : wc.cell? ⟨p0, 1, none⟩ = some (.int .u64 A) := (by rw [← HP.out.2.2]; exact Hc.out.1.cell 1))
  refine world_hid fun wd hWd => ?_
  have Hd : Hid (Po wd p0 (tikS s) ∧ w.grownBy wd (some p0)) := by
    rw [hWd.out]
    refine ⟨?_, grownBy_trans Hc.out.2 (grownBy_trans (grownBy_set _ ⟨p0, 0, none⟩ _) (grownBy_set _ ⟨p0, 1, none⟩ _))⟩
    have h2 := (Hc.out.1.set (j := 0) (.int .i64 E')).set (j := 1) (.int .u64 A')
    show Bk p0 _ (csL (tikS s)).toArray _
    rw [HX.out.2.2]
    exact h2
  rw [hR.out]
  clear hR hWd Hc Hb c0 c1 d0 d1 f0 f1 KL
  have HL : Hid (wd.drew.cell? ⟨p0, 2, none⟩ = some (.int .i64 s.e)) := Hd.out.1.cell 2
  refine seq_hid fun R hR => ?_
  go_wp2_with fail
  refine wp_region_lastH (S := fun w' => w'.cell? ⟨p0, 2, none⟩ = some (.int .i64 s.e)) (by kernel_rfl) (by kernel_rfl) (by rfl) (HL.out) (fun hHeld => ?_)
  simp only [idleLast, idle]
  refine wpAnyH_takeD (some 21) (i := 0) (v := ?_) rfl (by kernel_rfl) (by kernel_rfl) (by kernel_rfl) (fun _ _ _ h => h) (Or.inl ⟨by rfl, ?_⟩) (by assumption) rfl ?_
  rotate_left
  · (intro w hSw; (try dsimp only at hSw); go_split_ands; go_simp; first | done | with_reducible rfl)
  simp only [Act.put, List.setIfInBounds_toArray, List.set_cons_zero, List.set_cons_succ]
  refine wpAnyH_takeD (some 22) (i := 1) (v := ?_) rfl (by kernel_rfl) (by kernel_rfl) (by kernel_rfl) (fun _ _ _ h => h) (Or.inl ⟨by rfl, ?_⟩) (by assumption) rfl ?_
  rotate_left
  · (intro w hSw; (try dsimp only at hSw); go_split_ands; go_simp; first | done | with_reducible rfl)
  simp only [Act.put, List.setIfInBounds_toArray, List.set_cons_zero, List.set_cons_succ]
  refine wpAnyH_takeD (some 23) (i := 2) (v := ?_) rfl (by kernel_rfl) (by kernel_rfl) (by kernel_rfl) (fun _ _ _ h => h) (Or.inl ⟨by rfl, ?_⟩) (by assumption) rfl ?_
  rotate_left
  · (intro w hSw; (try dsimp only at hSw); go_split_ands; go_simp; first | done | with_reducible rfl)
  simp only [Act.put, List.setIfInBounds_toArray, List.set_cons_zero, List.set_cons_succ]
  refine wpAnyH_takeD (some 24) (i := 3) (v := ?_) rfl (by kernel_rfl) (by kernel_rfl) (by kernel_rfl) (fun _ _ _ h => h) (Or.inl ⟨by rfl, ?_⟩) (by assumption) rfl ?_
  rotate_left
  · (intro w hSw; (try dsimp only at hSw); go_split_ands; go_simp; first | done | with_reducible rfl)
  simp only [Act.put, List.setIfInBounds_toArray, List.set_cons_zero, List.set_cons_succ]
  refine wpAnyH_takeD (some 25) (i := 4) (v := ?_) rfl (by kernel_rfl) (by kernel_rfl) (by kernel_rfl) (fun _ _ _ h => h) (Or.inl ⟨by rfl, ?_⟩) (by assumption) rfl ?_
  rotate_left
  · (intro w hSw; (try dsimp only at hSw); go_split_ands; go_simp; first | done | with_reducible rfl)
  simp only [Act.put, List.setIfInBounds_toArray, List.set_cons_zero, List.set_cons_succ]
  refine wpAnyH_takeD (some 26) (i := 5) (v := ?_) rfl (by kernel_rfl) (by kernel_rfl) (by kernel_rfl) (fun _ _ _ h => h) (Or.inl ⟨by rfl, ?_⟩) (by assumption) rfl ?_
  rotate_left
  · (intro w hSw; (try dsimp only at hSw); go_split_ands; go_simp; first | done | with_reducible rfl)
  simp only [Act.put, List.setIfInBounds_toArray, List.set_cons_zero, List.set_cons_succ]
  refine wpAnyH_ready (rs := [6]) (by kernel_rfl) (by simp) ?_
  refine AllReadyH.cons rfl (fun Kz hKz => ?_) AllReadyH.nil
  go_simp
  go_wp2_with (go_at_call 47; refine (drive_any p0 _).mono ?_; rintro e we ⟨rfl, hw⟩; rw [hw]; clear hw)
  refine hKz.out _ _ (HL.out) (fun hHeld => ?_)
  clear hKz Kz
  refine wpAnyH_ready (rs := [7]) (by kernel_rfl) (by simp) ?_
  refine AllReadyH.cons rfl (fun Kz hKz => ?_) AllReadyH.nil
  go_simp
  go_wp2_with (go_at_call 87; refine (KB.out wd.drew (Bk.kept Hd.out.1 rfl)).mono ?_; (rintro e wf ⟨rfl, hb, hg⟩; have Hf : Hid (Po wf p0 (beatS (tikS s)) ∧ w.grownBy wf (some p0)) := ⟨hb, grownBy_trans Hd.out.2 (grownBy_trans (grownBy_drew _ _) hg)⟩; clear hb hg))
  refine hKz.out _ _ (Hf.out.1.cell 2) (fun hHeld => ?_)
  clear hKz Kz
  refine wpAnyH_ready (rs := [8]) (by kernel_rfl) (by simp) ?_
  refine AllReadyH.cons rfl (fun Kz hKz => ?_) AllReadyH.nil
  go_simp
  go_wp2_with (go_at_call 27; refine (KA.out _).mono ?_; rintro e we ⟨rfl, hw⟩; rw [hw]; clear hw)
  refine hKz.out _ _ (Hf.out.1.cell 2) (fun hHeld => ?_)
  clear hKz Kz
  refine wpAnyH_takeD (some 30) (i := 9) (v := ?_) rfl (by kernel_rfl) (by kernel_rfl) (by kernel_rfl) (fun _ _ _ h => h) (Or.inl ⟨by rfl, ?_⟩) (by assumption) rfl ?_
  rotate_left
  · (intro w hSw; (try dsimp only at hSw); go_split_ands; go_simp; first | done | with_reducible rfl)
  simp only [Act.put, List.setIfInBounds_toArray, List.set_cons_zero, List.set_cons_succ]
  refine wpAnyH_takeD (some 31) (i := 10) (v := ?_) rfl (by kernel_rfl) (by kernel_rfl) (by kernel_rfl) (fun _ _ _ h => h) (Or.inl ⟨by rfl, ?_⟩) (by assumption) rfl ?_
  rotate_left
  · (intro w hSw; (try dsimp only at hSw); go_split_ands; go_simp; first | done | with_reducible rfl)
  simp only [Act.put, List.setIfInBounds_toArray, List.set_cons_zero, List.set_cons_succ]
  refine wpAnyH_idle (i := 11) (v := .bool true) rfl (by kernel_rfl) (by kernel_rfl) (by kernel_rfl) (fun _ _ _ h => h) (Or.inl ⟨by rfl, fun _ _ => rfl⟩) (by assumption) rfl ?_
  refine wpAnyH_done (by kernel_rfl) ?_ _
  refine lastQ_of _ rfl ?_
  refine step_st1 (by rfl) _ _ rfl p0 2 (.int .i64 V) (by rfl) (by rfl) (by rfl) (by kernel_rfl) (by rfl) (csL (beatS (tikS s))) (by simp [csL]) Hf.out.1 ?_
  intro wg H4
  have Hg : Hid (Po wg p0 (one s) ∧ w.grownBy wg (some p0)) := ⟨by rw [HX.out.1]; exact H4.out.bk, grownBy_trans Hf.out.2 H4.out.gr⟩
  simp only [put_none, wpList]
  go_wp2_with fail
  rw [hR.out]
  clear hR H4 Hf Hd HL KB KA
  refine seq_hid fun R hR => ?_
  go_wp2_with (go_at_call 46; refine (KE.out _ Hg.out.1).mono ?_; rintro e wh ⟨rfl, hb⟩; have Hh : Hid (Po wh p0 (one s) ∧ w.grownBy wh (some p0)) := ⟨Bk.kept Hg.out.1 (hb.block _ (Bk.lt Hg.out.1)), grownBy_trans Hg.out.2 (grownBy_below hb _)⟩; clear hb)
  rw [hR.out]
  clear hR Hg KE
  by_cases hd : D0 < D1
  · have c6 : wh.cell? ⟨p0, 6, none⟩ = some (.int .i64 s.l) := Hh.out.1.cell 6
    go_wp2_with (go_at_call 48; refine (KP.out _ Hh.out.1).mono ?_; rintro e wi ⟨rfl, hb, hg⟩; have Hi : Hid (Po wi p0 { one s with e := lpE s.l (one s).e } ∧ w.grownBy wi (some p0)) := ⟨hb, grownBy_trans Hh.out.2 hg⟩; clear hb hg; have d6 : wi.cell? ⟨p0, 6, none⟩ = some (.int .i64 s.l) := (Hi.out.1.cell 6); have f6 : wi.frozen? ⟨p0, 6, none⟩ = false := (Hi.out.1.frozen 6))
    rw [hQ.out]
    go_end0
    exact ⟨rfl, by rw [if_pos hd]; exact Hi.out.1.set (j := 6) _, grownBy_trans Hi.out.2 (grownBy_set _ ⟨p0, 6, none⟩ _)⟩
  · go_wp2_with fail
    rw [hQ.out]
    go_end0
    exact ⟨rfl, by rw [if_neg (by omega)]; exact Hh.out.1, Hh.out.2⟩
theorem passP_split (s : Cs) (k : Nat) : passS s (k + 1) = secS (passS s k) := rfl
set_option maxHeartbeats 1000000 in
theorem pass_any (p : Nat) (s : Cs) (n : Int) (w : World) (h : Po w p s) (ok : OkC s) : Calls Try.prog 10 #[.pointer (some ⟨p, 0, none⟩), .int .i64 n] w fun e w' => e = .returned (.int .i64 (if paE s n = true then 1 else 0)) ∧ Po w' p (paS s n) ∧ w.grownBy w' (some p) := by
  have HP : Hid (Po w p s) := h
  have HO : Hid (OkC s) := ok
  have c7 : w.cell? ⟨p, 7, none⟩ = some (.int .i64 s.n) := h.cell 7
  have w1 : wrap64 (1048576 - s.n) = 1048576 - s.n := w64i _ (by have := ok.n1; omega) (by have := ok.n0; omega)
  by_cases hn : n < 0
  · have e : paE s n = true := by unfold paE; rw [decide_eq_true hn]; rfl
    unfold paS
    rw [e, if_pos rfl, if_pos rfl]
    clear h ok e
    go_enter Try.func10, Try.ntmps10
    refine post_hid fun Q hQ => ?_
    go_wp2_with fail
    rw [hQ.out]
    go_ret
    exact ⟨rfl, HP.out, grownBy_below (Below.refl _ _) _⟩
  by_cases hm : 1048576 - s.n < n
  · have e : paE s n = true := by unfold paE; rw [decide_eq_true hm]; simp
    unfold paS
    rw [e, if_pos rfl, if_pos rfl]
    clear h ok e
    go_enter Try.func10, Try.ntmps10
    refine post_hid fun Q hQ => ?_
    go_wp2_with fail
    rw [hQ.out]
    go_ret
    exact ⟨rfl, HP.out, grownBy_below (Below.refl _ _) _⟩
  · have e : paE s n = false := by unfold paE; rw [decide_eq_false hn, decide_eq_false hm]; rfl
    unfold paS
    rw [e, if_neg (by decide), if_neg (by decide)]
    have n1 : n ≤ 1048576 := by have := ok.n0; omega
    clear h ok e
    go_enter Try.func10, Try.ntmps10
    refine post_hid fun Q hQ => ?_
    go_wp2_with fail
    go_loopw [17] (fun i wr => ∃ (k : Nat), i = .int .i64 k ∧ (k : Int) ≤ n ∧ Hid (Po wr p (passS s k) ∧ w.grownBy wr (some p))) (fun i _ => (n - intOf i).toNat)
    case atStart => exact ⟨0, rfl, by omega, ⟨HP.out, grownBy_below (Below.refl _ _) _⟩⟩
    case round =>
      obtain ⟨k, rfl, hk, HS⟩ := hrel
      by_cases hlt : (k : Int) < n
      · have kw : wrap64 ((k : Int) + 1) = k + 1 := w64i _ (by omega) (by omega)
        have KS : Hid (Calls Try.prog 28 #[.pointer (some ⟨p, 0, none⟩)] wr fun e w' => e = .returned (.tuple #[]) ∧ Po w' p (passS s (k + 1)) ∧ wr.grownBy w' (some p)) := second_any p (passS s k) wr HS.out.1 (HO.out.pass k (by omega)) (by rw [pass_n]; omega)
        go_wp2_with (go_at_call 28; refine KS.out.mono ?_; rintro e w2 ⟨rfl, hb, hg⟩; have H2 : Hid (Po w2 p (passS s (k + 1)) ∧ w.grownBy w2 (some p)) := ⟨hb, grownBy_trans HS.out.2 hg⟩; clear hb hg)
        go_roundw
        case rel => exact ⟨k + 1, by go_num, by omega, H2.out⟩
        case measure => simp [intOf]; omega
      · have ek : Hid (n.toNat = k) := by show _ = _; omega
        go_wp2_with fail
        rw [hQ.out]
        go_ret
        exact ⟨rfl, by rw [ek.out]; exact HS.out.1, HS.out.2⟩
end Go.Proofs.Ytdmaaigchfgmdaa
