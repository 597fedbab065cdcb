/- PollInside, walked. -/
import Derived.Test.YtocaiimhbmhakaaJIb
import Derived.Test.YtocaiimhbmhakaaGQ
namespace Go.Proofs.Ytocaiimhbmhakaa
open Go Go.RowKit Go.Sort
set_option maxRecDepth 20000 in
set_option maxHeartbeats 6000000 in
theorem PollInside_row (a : As) (draw : Int) (v : Value) (ss : List Stp) (w : World) (hv : Sp w.heap.size w v ss) :
    Calls Try.prog 6 #[.agg (asL a).toArray, .int .i64 draw, v] w fun e w' => e = .returned (.bool true) ∧ Below w.heap.size w w' := by
  obtain ⟨ao, cap, rfl, -⟩ := hv.ex
  obtain ⟨n, hn⟩ : ∃ n, n = ss.length := ⟨_, rfl⟩
  rw [← hn] at hv ⊢
  have HV : Hid (Sp w.heap.size w (.slice ao n cap) ss ∧ n = ss.length) := ⟨hv, hn⟩
  clear hv hn
  go_enter Try.func6, Try.ntmps6
  refine post_hid fun Q hQ => ?_
  refine seq_hid fun R hR => ?_
  go_wp2_with fail
  refine world_hid fun W hW => ?_
  have HW : Hid (Bk w.heap.size W (asL a).toArray 25 ∧ Below w.heap.size w W ∧ W.heap.size = w.heap.size + 1) := by
    rw [hW.out]
    exact ⟨Bk.new _ _ _, (Below.refl _ _).alloc (Nat.le_refl _) _, by simp⟩
  clear hW
  rw [hR.out]
  clear hR
  have HC : Hid (∀ j u, (asL a)[j]? = some u → W.cell? ((⟨w.heap.size, 0, none⟩ : Addr).add j) = some u) := cells_of (l := asL a) HW.out.1
  by_cases hlen : 65536 < (n : Int)
  · go_wp2_with fail
    rw [hQ.out]
    go_ret
    exact ⟨rfl, HW.out.2.1⟩
  refine seq_hid fun R hR => ?_
  go_wp2_with fail
  rw [hR.out]
  clear hR
  by_cases ha : okA a
  · have HN : Hid (Calls Try.prog 9 #[.agg (asL a).toArray, .int .i64 0, .int .i64 draw] W _) := new_ok a 0 draw W ha
    refine seq_hid fun R hR => ?_
    go_wp2_with (first
      | (refine step_ldat 25 _ rfl rfl ⟨w.heap.size, 0, none⟩ (by rfl) (asL a) _ Try.underlying25 rfl (by kernel_rfl) HC.out ?_)
      | (go_at_call 9; refine HN.out.mono ?_; rintro e w1 ⟨p, rfl, hp1, hp2, hb1⟩; have H1 : Hid (Po w1 p (newS a 0 draw) ∧ W.heap.size ≤ p ∧ Below W.heap.size W w1 ∧ Bk w.heap.size w1 (asL a).toArray 25) := ⟨hp1, hp2, hb1, HW.out.1.kept (hb1.block _ HW.out.1.lt)⟩; clear hp1 hp2 hb1))
    rw [hR.out]
    clear hR HN HC
    have HC : Hid (∀ j u, (asL a)[j]? = some u → w1.cell? ((⟨w.heap.size, 0, none⟩ : Addr).add j) = some u) := cells_of (l := asL a) H1.out.2.2.2
    have HN : Hid (Calls Try.prog 10 #[.agg (asL a).toArray, .int .i64 0, .int .i64 draw] w1 _) := rnew_ok a 0 draw w1 ha
    refine seq_hid fun R hR => ?_
    go_wp2_with (first
      | (refine step_ldat 25 _ rfl rfl ⟨w.heap.size, 0, none⟩ (by rfl) (asL a) _ Try.underlying25 rfl (by kernel_rfl) HC.out ?_)
      | (go_at_call 10; refine HN.out.mono ?_; rintro e w2 ⟨q, rfl, hq1, hq2, hb2⟩; have H2 : Hid (Rp w2 q a (newS a 0 draw) ∧ w1.heap.size ≤ q ∧ Below w1.heap.size w1 w2) := ⟨hq1, hq2, hb2⟩; clear hq1 hq2 hb2))
    rw [hR.out]
    clear hR HN HC
    obtain ⟨s0, hs0⟩ : ∃ s0, newS a 0 draw = s0 := ⟨_, rfl⟩
    have HD : Hid (Wd w a p s0 w2 ∧ Rp w2 q a s0 ∧ p ≠ q ∧ w.heap.size < q) := by
      rw [← hs0]
      have l1 := Bk.lt H1.out.1
      have l2 := HW.out.2.2
      have l3 := H1.out.2.1
      have l4 := H2.out.2.1
      exact ⟨⟨H1.out.1.below H2.out.2.2 l1, H1.out.2.2.2.kept (H2.out.2.2.block _ H1.out.2.2.2.lt), HW.out.2.1.trans ((H1.out.2.2.1.trans (H2.out.2.2.mono H1.out.2.2.1.size)).mono (by omega)), by omega⟩, H2.out.1, by omega, by omega⟩
    have HO : Hid (OkL s0 ∧ newS a 0 draw = s0 ∧ okA a) := ⟨by rw [← hs0]; exact OkL.new ha _ _, hs0, ha⟩
    clear H1 H2 HW hs0 ha
    have Hw2 : Hid (Wd w a p s0 w2) := HD.out.1
    clear HD
    refine seq_hid fun R hR => ?_
    go_wp2_with fail
    rw [hR.out]
    clear hR
    go_wp2_with fail
    go_loopw [11] (fun i wr => ∃ (k : Nat) (s : Pl), i = .int .i64 k ∧ (k : Int) ≤ n ∧ Hid (Wd w a p s wr ∧ OkL s ∧ a.minp ≤ s.least ∧ s.most = a.maxp)) (fun i _ => n - (intOf i).toNat)
    case atStart => exact ⟨0, s0, rfl, by omega, ⟨Hw2.out, HO.out.1, by rw [← HO.out.2.1]; exact Int.le_refl _, by rw [← HO.out.2.1]; rfl⟩⟩
    case round =>
      obtain ⟨k, s, rfl, hk, HS⟩ := hrel
      by_cases hlt : (k : Int) < n
      · have hkx : k < ss.length := by have := HV.out.2; omega
        obtain ⟨ad, hix, hab, hac⟩ := (HV.out.1.below HS.out.1.be (Nat.le_refl _)).at k hkx
        obtain ⟨y, hy⟩ : ∃ y, y = ss.getD k z11 := ⟨_, rfl⟩
        rw [← hy] at hac
        clear hab hy hkx
        obtain ⟨y0, y1, y2⟩ := y
        obtain ⟨M1, hM1⟩ : ∃ M, min y1 1073741824 = M := ⟨_, rfl⟩
        obtain ⟨C, hC⟩ : ∃ C, max 0 M1 = C := ⟨_, rfl⟩
        have m1 : ∀ u, (Builtin.min_ #[3, 3] 3 #[.int .i64 y1, .int .i64 1073741824]).run Try.prog u = .ok (.int .i64 M1) u := fun u => by rw [run_mn, hM1]
        have m2 : ∀ u, (Builtin.max_ #[3, 3] 3 #[.int .i64 0, .int .i64 M1]).run Try.prog u = .ok (.int .i64 C) u := fun u => by rw [run_mx, hC]
        have HC2 : Hid (0 ≤ C ∧ C ≤ 1073741824) := ⟨by omega, by omega⟩
        clear hM1 hC
        obtain ⟨bb, hbb⟩ : ∃ bb, wr.heap.size = bb := ⟨_, rfl⟩
        have HT : Hid ((wr.alloc (.cells #[.int .i64 0, .int .i64 0, .int .i64 0] 39)).heap[bb]? = some (.cells #[.int .i64 0, .int .i64 0, .int .i64 0] 39 (0, 0))) := by
          have h0 := alloc_at wr (.cells #[.int .i64 0, .int .i64 0, .int .i64 0] 39)
          rw [hbb] at h0
          exact h0
        have Hbb : Hid (w.heap.size < bb ∧ bb ≠ p) := by
          have l1 := Bk.lt HS.out.1.po
          have l2 := HS.out.1.lt
          exact ⟨by omega, by omega⟩
        by_cases e0 : y0 = 0
        · subst e0
          have HC : Hid (∀ j u, (spL ⟨0, y1, y2⟩)[j]? = some u → wr.cell? (ad.add j) = some u) := hac
          have hT : Bk bb ((wr.alloc (.cells #[.int .i64 0, .int .i64 0, .int .i64 0] 39)).setRow bb (spL ⟨0, y1, y2⟩).toArray) (spL ⟨0, y1, y2⟩).toArray 39 := setRow_heap _ _ _ _ _ _ HT.out
          have b0 : ((wr.alloc (.cells #[.int .i64 0, .int .i64 0, .int .i64 0] 39)).setRow bb (spL ⟨0, y1, y2⟩).toArray).cell? ⟨bb, 0, none⟩ = some (.int .i64 0) := hT.cell 0
          have b1 : ((wr.alloc (.cells #[.int .i64 0, .int .i64 0, .int .i64 0] 39)).setRow bb (spL ⟨0, y1, y2⟩).toArray).cell? ⟨bb, 1, none⟩ = some (.int .i64 y1) := hT.cell 1
          have b2 : ((wr.alloc (.cells #[.int .i64 0, .int .i64 0, .int .i64 0] 39)).setRow bb (spL ⟨0, y1, y2⟩).toArray).cell? ⟨bb, 2, none⟩ = some (.int .i64 y2) := hT.cell 2
          have b3 : ((wr.alloc (.cells #[.int .i64 0, .int .i64 0, .int .i64 0] 39)).setRow bb (spL ⟨0, y1, y2⟩).toArray).frozen? ⟨bb, 1, none⟩ = false := hT.frozen 1
          have HZ : Hid (Wd w a p s (((wr.alloc (.cells #[.int .i64 0, .int .i64 0, .int .i64 0] 39)).setRow bb (spL ⟨0, y1, y2⟩).toArray).setCell ⟨bb, 1, none⟩ (.int .i64 C)) ∧ Bk bb (((wr.alloc (.cells #[.int .i64 0, .int .i64 0, .int .i64 0] 39)).setRow bb (spL ⟨0, y1, y2⟩).toArray).setCell ⟨bb, 1, none⟩ (.int .i64 C)) (spL ⟨0, C, y2⟩).toArray 39) := ⟨((HS.out.1.alloc _).row bb _ Hbb.out.1 Hbb.out.2).cell bb 1 _ Hbb.out.1 Hbb.out.2, hT.set (j := 1) (.int .i64 C)⟩
          clear hac hT
          go_wp2_with (first
            | (refine step_ldat 39 _ rfl rfl ad (by rfl) (spL ⟨0, y1, y2⟩) _ Try.underlying39 rfl (by kernel_rfl) HC.out ?_)
            | (refine step_stR (by rfl) _ _ rfl bb (spL ⟨0, y1, y2⟩).toArray (by rfl) (by rfl) #[.int .i64 0, .int .i64 0, .int .i64 0] (by kernel_rfl) (by rfl) (by kernel_rfl) HT.out ?_))
          refine (sent_any p s C y2 _ HZ.out.1.po HS.out.2.1).mono ?_
          rintro e W5 ⟨rfl, h5, g5⟩
          have Hw5 : Hid (Wd w a p (sentS s C y2) W5 ∧ Bk bb W5 (spL ⟨0, C, y2⟩).toArray 39) := ⟨HZ.out.1.mod h5 g5, HZ.out.2.kept (g5.block _ HZ.out.2.lt (fun e => Hbb.out.2 (Option.some.inj e)))⟩
          clear h5 g5 b0 b1 b2 b3
          have H2 : Hid (OkL (sentS s C y2) ∧ a.minp ≤ (sentS s C y2).least ∧ (sentS s C y2).most = a.maxp) := by
            have e1 : (sentS s C y2).least = s.least := by unfold sentS waitS; split <;> rfl
            have e2 : (sentS s C y2).most = s.most := by unfold sentS waitS; split <;> rfl
            exact ⟨HS.out.2.1.sent _ _, by rw [e1]; exact HS.out.2.2.1, by rw [e2]; exact HS.out.2.2.2⟩
          have Hnx : Hid (C + 2 ≤ (sentS s C y2).next ∧ (sentS s C y2).next ≤ C + pw a.maxp) := by
            have q := sent_next HS.out.2.1 C y2
            have e3 : ck C = C := by have := HC2.out; unfold ck; omega
            rw [e3, HS.out.2.2.2] at q
            exact q
          obtain ⟨E, hE⟩ : ∃ E, (sentS s C y2).exp = E := ⟨_, rfl⟩
          obtain ⟨Rr, hRr⟩ : ∃ R, (sentS s C y2).reach = R := ⟨_, rfl⟩
          have d1 : decide (E < a.minp) = false := by have := H2.out.1.le; have := H2.out.2.1; simp; omega
          have d2 : decide (a.maxp < E) = false := by have := H2.out.1.em; have := H2.out.2.2; simp; omega
          have d3 : decide (Rr < 0) = false := by have := H2.out.1.r0; simp; omega
          have d4 : decide (255 < Rr) = false := by have := H2.out.1.r1; simp; omega
          have HX : Hid ((sentS s C y2).exp = E ∧ (sentS s C y2).reach = Rr) := ⟨hE, hRr⟩
          have c3 : W5.cell? ⟨w.heap.size, 3, none⟩ = some (.int .i64 a.minp) := Hw5.out.1.ak.cell 3
          have c4 : W5.cell? ⟨w.heap.size, 4, none⟩ = some (.int .i64 a.maxp) := Hw5.out.1.ak.cell 4
          have o0 : W5.cell? ⟨bb, 0, none⟩ = some (.int .i64 0) := Hw5.out.2.cell 0
          have o1 : W5.cell? ⟨bb, 1, none⟩ = some (.int .i64 C) := Hw5.out.2.cell 1
          clear hE hRr
          go_wp2_with fail
          refine wp_region_quietW (by kernel_rfl) (by kernel_rfl) ?_
          repeat (refine qw_step (fun K hK => ?_); go_simp; first | (refine hK _ ?_; clear hK K) | (apply Exists.intro; refine ⟨fun _ => ?_, hK _ ?_⟩; (go_at_call 15; exact Calls.quiet_of_same (wd_exp (Hw5.out.1.drewN _) E HX.out.1)); clear hK K) | (apply Exists.intro; refine ⟨fun _ => ?_, hK _ ?_⟩; (go_at_call 19; exact Calls.quiet_of_same (wd_reach (Hw5.out.1.drewN _) H2.out.1 Rr HX.out.2)); clear hK K))
          refine qw_nil ?_
          intro W6 hw'
          obtain ⟨nq, hw''⟩ := hw'
          have Hw6 : Hid (Wd w a p (sentS s C y2) W6 ∧ Bk bb W6 (spL ⟨0, C, y2⟩).toArray 39) := by rw [hw'']; exact ⟨Hw5.out.1.drewN _, Hw5.out.2⟩
          clear hw'' c3 c4 o0 o1
          have c4 : W6.cell? ⟨w.heap.size, 4, none⟩ = some (.int .i64 a.maxp) := Hw6.out.1.ak.cell 4
          have o0 : W6.cell? ⟨bb, 0, none⟩ = some (.int .i64 0) := Hw6.out.2.cell 0
          have o1 : W6.cell? ⟨bb, 1, none⟩ = some (.int .i64 C) := Hw6.out.2.cell 1
          obtain ⟨N, hN⟩ : ∃ N, (sentS s C y2).next = N := ⟨_, rfl⟩
          obtain ⟨P, hP⟩ : ∃ P, pw a.maxp = P := ⟨_, rfl⟩
          have hm := HO.out.2.2
          unfold okA at hm
          have bP := pw_bd a.maxp hm.2.1
          have hb0 : 0 ≤ a.maxp := by omega
          have hb1 : a.maxp ≤ 10 := by omega
          have q := Hnx.out
          rw [hN, hP] at q
          rw [hP] at bP
          have kP : wrap64 (2 ^ a.maxp.toNat) = P := by rw [← hP]; exact w64 (pw a.maxp) (by omega) (by omega)
          have kP' : IntKind.i64.wrap (2 ^ a.maxp.toNat) = P := by rw [IntWalk.i64_left]; exact kP
          have kP2 : IntKind.i64.wrap (2 ^ min (IntKind.u64.wrap a.maxp).toNat 64) = P := by
            have e1 : IntKind.u64.wrap a.maxp = a.maxp := by rw [IntKind.wrap_u64]; omega
            have e2 : min a.maxp.toNat 64 = a.maxp.toNat := by omega
            rw [e1, e2]; exact kP'
          obtain ⟨C2, hC2⟩ : ∃ c, C + 2 = c := ⟨_, rfl⟩
          obtain ⟨CP, hCP⟩ : ∃ c, C + P = c := ⟨_, rfl⟩
          have kC : wrap64 (C + 2) = C2 := by rw [← hC2]; exact w64s HC2.out ⟨by decide, by decide⟩
          have kC' : IntKind.i64.wrap (C + 2) = C2 := by rw [IntWalk.i64_left]; exact kC
          have kD : wrap64 (C + P) = CP := by rw [← hCP]; exact w64s HC2.out bP
          have kD' : IntKind.i64.wrap (C + P) = CP := by rw [IntWalk.i64_left]; exact kD
          have n1 : decide (N < C2) = false := by rw [← hC2]; exact decide_eq_false (Int.not_lt.2 q.1)
          have n2 : decide (CP < N) = false := by rw [← hCP]; exact decide_eq_false (Int.not_lt.2 q.2)
          have HN : Hid ((sentS s C y2).next = N) := hN
          clear hN hP hm q bP hC2 hCP d1 d2 d3 d4
          go_wp2_with fail
          refine wp_region_quietW (by kernel_rfl) (by kernel_rfl) ?_
          repeat (refine qw_step (fun K hK => ?_); go_simp; first | (refine hK _ ?_; clear hK K) | (apply Exists.intro; refine ⟨fun _ => ?_, hK _ ?_⟩; (go_at_call 13; exact Calls.quiet_of_same (wd_next (Hw6.out.1.drewN _) N HN.out)); clear hK K))
          refine qw_nil ?_
          intro W7 hw'
          obtain ⟨nq, hw''⟩ := hw'
          have Hw7 : Hid (Wd w a p (sentS s C y2) W7) := by rw [hw'']; exact Hw6.out.1.drewN _
          clear hw'' kP kP' kP2 kC kC' kD kD' n1 n2 o0 o1 c4 m1 m2
          go_wp2_with fail
          skip
          go_roundw
          case rel => exact ⟨k + 1, sentS s C y2, by go_num, by omega, ⟨Hw7.out, H2.out⟩⟩
          case measure => simp [intOf]; omega
        by_cases e1 : y0 = 1
        · subst e1
          have HC : Hid (∀ j u, (spL ⟨1, y1, y2⟩)[j]? = some u → wr.cell? (ad.add j) = some u) := hac
          have hT : Bk bb ((wr.alloc (.cells #[.int .i64 0, .int .i64 0, .int .i64 0] 39)).setRow bb (spL ⟨1, y1, y2⟩).toArray) (spL ⟨1, y1, y2⟩).toArray 39 := setRow_heap _ _ _ _ _ _ HT.out
          have b0 : ((wr.alloc (.cells #[.int .i64 0, .int .i64 0, .int .i64 0] 39)).setRow bb (spL ⟨1, y1, y2⟩).toArray).cell? ⟨bb, 0, none⟩ = some (.int .i64 1) := hT.cell 0
          have b1 : ((wr.alloc (.cells #[.int .i64 0, .int .i64 0, .int .i64 0] 39)).setRow bb (spL ⟨1, y1, y2⟩).toArray).cell? ⟨bb, 1, none⟩ = some (.int .i64 y1) := hT.cell 1
          have b2 : ((wr.alloc (.cells #[.int .i64 0, .int .i64 0, .int .i64 0] 39)).setRow bb (spL ⟨1, y1, y2⟩).toArray).cell? ⟨bb, 2, none⟩ = some (.int .i64 y2) := hT.cell 2
          have b3 : ((wr.alloc (.cells #[.int .i64 0, .int .i64 0, .int .i64 0] 39)).setRow bb (spL ⟨1, y1, y2⟩).toArray).frozen? ⟨bb, 1, none⟩ = false := hT.frozen 1
          have HZ : Hid (Wd w a p s (((wr.alloc (.cells #[.int .i64 0, .int .i64 0, .int .i64 0] 39)).setRow bb (spL ⟨1, y1, y2⟩).toArray).setCell ⟨bb, 1, none⟩ (.int .i64 C)) ∧ Bk bb (((wr.alloc (.cells #[.int .i64 0, .int .i64 0, .int .i64 0] 39)).setRow bb (spL ⟨1, y1, y2⟩).toArray).setCell ⟨bb, 1, none⟩ (.int .i64 C)) (spL ⟨1, C, y2⟩).toArray 39) := ⟨((HS.out.1.alloc _).row bb _ Hbb.out.1 Hbb.out.2).cell bb 1 _ Hbb.out.1 Hbb.out.2, hT.set (j := 1) (.int .i64 C)⟩
          clear hac hT
          go_wp2_with (first
            | (refine step_ldat 39 _ rfl rfl ad (by rfl) (spL ⟨1, y1, y2⟩) _ Try.underlying39 rfl (by kernel_rfl) HC.out ?_)
            | (refine step_stR (by rfl) _ _ rfl bb (spL ⟨1, y1, y2⟩).toArray (by rfl) (by rfl) #[.int .i64 0, .int .i64 0, .int .i64 0] (by kernel_rfl) (by rfl) (by kernel_rfl) HT.out ?_))
          refine (heard_any p s C _ HZ.out.1.po ⟨HS.out.2.1.r0, HS.out.2.1.r1⟩).mono ?_
          rintro e W5 ⟨rfl, h5, g5⟩
          have Hw5 : Hid (Wd w a p (heardS s) W5 ∧ Bk bb W5 (spL ⟨1, C, y2⟩).toArray 39) := ⟨HZ.out.1.mod h5 g5, HZ.out.2.kept (g5.block _ HZ.out.2.lt (fun e => Hbb.out.2 (Option.some.inj e)))⟩
          clear h5 g5 b0 b1 b2 b3
          have H2 : Hid (OkL (heardS s) ∧ a.minp ≤ (heardS s).least ∧ (heardS s).most = a.maxp) := ⟨HS.out.2.1.heard, HS.out.2.2.1, HS.out.2.2.2⟩
          obtain ⟨E, hE⟩ : ∃ E, (heardS s).exp = E := ⟨_, rfl⟩
          obtain ⟨Rr, hRr⟩ : ∃ R, (heardS s).reach = R := ⟨_, rfl⟩
          have d1 : decide (E < a.minp) = false := by have := H2.out.1.le; have := H2.out.2.1; simp; omega
          have d2 : decide (a.maxp < E) = false := by have := H2.out.1.em; have := H2.out.2.2; simp; omega
          have d3 : decide (Rr < 0) = false := by have := H2.out.1.r0; simp; omega
          have d4 : decide (255 < Rr) = false := by have := H2.out.1.r1; simp; omega
          have HX : Hid ((heardS s).exp = E ∧ (heardS s).reach = Rr) := ⟨hE, hRr⟩
          have c3 : W5.cell? ⟨w.heap.size, 3, none⟩ = some (.int .i64 a.minp) := Hw5.out.1.ak.cell 3
          have c4 : W5.cell? ⟨w.heap.size, 4, none⟩ = some (.int .i64 a.maxp) := Hw5.out.1.ak.cell 4
          have o0 : W5.cell? ⟨bb, 0, none⟩ = some (.int .i64 1) := Hw5.out.2.cell 0
          have o1 : W5.cell? ⟨bb, 1, none⟩ = some (.int .i64 C) := Hw5.out.2.cell 1
          clear hE hRr
          go_wp2_with fail
          refine wp_region_quietW (by kernel_rfl) (by kernel_rfl) ?_
          repeat (refine qw_step (fun K hK => ?_); go_simp; first | (refine hK _ ?_; clear hK K) | (apply Exists.intro; refine ⟨fun _ => ?_, hK _ ?_⟩; (go_at_call 15; exact Calls.quiet_of_same (wd_exp (Hw5.out.1.drewN _) E HX.out.1)); clear hK K) | (apply Exists.intro; refine ⟨fun _ => ?_, hK _ ?_⟩; (go_at_call 19; exact Calls.quiet_of_same (wd_reach (Hw5.out.1.drewN _) H2.out.1 Rr HX.out.2)); clear hK K))
          refine qw_nil ?_
          intro W6 hw'
          obtain ⟨nq, hw''⟩ := hw'
          have Hw6 : Hid (Wd w a p (heardS s) W6 ∧ Bk bb W6 (spL ⟨1, C, y2⟩).toArray 39) := by rw [hw'']; exact ⟨Hw5.out.1.drewN _, Hw5.out.2⟩
          clear hw'' c3 c4 o0 o1
          have c4 : W6.cell? ⟨w.heap.size, 4, none⟩ = some (.int .i64 a.maxp) := Hw6.out.1.ak.cell 4
          have o0 : W6.cell? ⟨bb, 0, none⟩ = some (.int .i64 1) := Hw6.out.2.cell 0
          have o1 : W6.cell? ⟨bb, 1, none⟩ = some (.int .i64 C) := Hw6.out.2.cell 1
          go_wp2_with fail
          refine wp_region_quietW (by kernel_rfl) (by kernel_rfl) ?_
          repeat (refine qw_step (fun K hK => ?_); go_simp; refine hK _ ?_; clear hK K)
          refine qw_nil ?_
          intro W7 hw'
          obtain ⟨nq, hw''⟩ := hw'
          have Hw7 : Hid (Wd w a p (heardS s) W7) := by rw [hw'']; exact Hw6.out.1.drewN _
          clear hw'' o0 o1 c4 m1 m2 d1 d2 d3 d4
          go_wp2_with fail
          skip
          go_roundw
          case rel => exact ⟨k + 1, heardS s, by go_num, by omega, ⟨Hw7.out, H2.out⟩⟩
          case measure => simp [intOf]; omega
        by_cases e2 : y0 = 2
        · subst e2
          have HC : Hid (∀ j u, (spL ⟨2, y1, y2⟩)[j]? = some u → wr.cell? (ad.add j) = some u) := hac
          have hT : Bk bb ((wr.alloc (.cells #[.int .i64 0, .int .i64 0, .int .i64 0] 39)).setRow bb (spL ⟨2, y1, y2⟩).toArray) (spL ⟨2, y1, y2⟩).toArray 39 := setRow_heap _ _ _ _ _ _ HT.out
          have b0 : ((wr.alloc (.cells #[.int .i64 0, .int .i64 0, .int .i64 0] 39)).setRow bb (spL ⟨2, y1, y2⟩).toArray).cell? ⟨bb, 0, none⟩ = some (.int .i64 2) := hT.cell 0
          have b1 : ((wr.alloc (.cells #[.int .i64 0, .int .i64 0, .int .i64 0] 39)).setRow bb (spL ⟨2, y1, y2⟩).toArray).cell? ⟨bb, 1, none⟩ = some (.int .i64 y1) := hT.cell 1
          have b2 : ((wr.alloc (.cells #[.int .i64 0, .int .i64 0, .int .i64 0] 39)).setRow bb (spL ⟨2, y1, y2⟩).toArray).cell? ⟨bb, 2, none⟩ = some (.int .i64 y2) := hT.cell 2
          have b3 : ((wr.alloc (.cells #[.int .i64 0, .int .i64 0, .int .i64 0] 39)).setRow bb (spL ⟨2, y1, y2⟩).toArray).frozen? ⟨bb, 1, none⟩ = false := hT.frozen 1
          have HZ : Hid (Wd w a p s (((wr.alloc (.cells #[.int .i64 0, .int .i64 0, .int .i64 0] 39)).setRow bb (spL ⟨2, y1, y2⟩).toArray).setCell ⟨bb, 1, none⟩ (.int .i64 C)) ∧ Bk bb (((wr.alloc (.cells #[.int .i64 0, .int .i64 0, .int .i64 0] 39)).setRow bb (spL ⟨2, y1, y2⟩).toArray).setCell ⟨bb, 1, none⟩ (.int .i64 C)) (spL ⟨2, C, y2⟩).toArray 39) := ⟨((HS.out.1.alloc _).row bb _ Hbb.out.1 Hbb.out.2).cell bb 1 _ Hbb.out.1 Hbb.out.2, hT.set (j := 1) (.int .i64 C)⟩
          clear hac hT
          go_wp2_with (first
            | (refine step_ldat 39 _ rfl rfl ad (by rfl) (spL ⟨2, y1, y2⟩) _ Try.underlying39 rfl (by kernel_rfl) HC.out ?_)
            | (refine step_stR (by rfl) _ _ rfl bb (spL ⟨2, y1, y2⟩).toArray (by rfl) (by rfl) #[.int .i64 0, .int .i64 0, .int .i64 0] (by kernel_rfl) (by rfl) (by kernel_rfl) HT.out ?_))
          refine (kissed_any p s C y2 _ HZ.out.1.po HS.out.2.1).mono ?_
          rintro e W5 ⟨rfl, h5, g5⟩
          have Hw5 : Hid (Wd w a p (kissS s C y2) W5 ∧ Bk bb W5 (spL ⟨2, C, y2⟩).toArray 39) := ⟨HZ.out.1.mod h5 g5, HZ.out.2.kept (g5.block _ HZ.out.2.lt (fun e => Hbb.out.2 (Option.some.inj e)))⟩
          clear h5 g5 b0 b1 b2 b3
          have H2 : Hid (OkL (kissS s C y2) ∧ a.minp ≤ (kissS s C y2).least ∧ (kissS s C y2).most = a.maxp) := by
            refine ⟨HS.out.2.1.kiss _ _, ?_, HS.out.2.2.2⟩
            have h1 := HS.out.2.2.1
            show a.minp ≤ kiE s y2
            unfold kiE
            omega
          obtain ⟨E, hE⟩ : ∃ E, (kissS s C y2).exp = E := ⟨_, rfl⟩
          obtain ⟨Rr, hRr⟩ : ∃ R, (kissS s C y2).reach = R := ⟨_, rfl⟩
          have d1 : decide (E < a.minp) = false := by have := H2.out.1.le; have := H2.out.2.1; simp; omega
          have d2 : decide (a.maxp < E) = false := by have := H2.out.1.em; have := H2.out.2.2; simp; omega
          have d3 : decide (Rr < 0) = false := by have := H2.out.1.r0; simp; omega
          have d4 : decide (255 < Rr) = false := by have := H2.out.1.r1; simp; omega
          have HX : Hid ((kissS s C y2).exp = E ∧ (kissS s C y2).reach = Rr) := ⟨hE, hRr⟩
          have c3 : W5.cell? ⟨w.heap.size, 3, none⟩ = some (.int .i64 a.minp) := Hw5.out.1.ak.cell 3
          have c4 : W5.cell? ⟨w.heap.size, 4, none⟩ = some (.int .i64 a.maxp) := Hw5.out.1.ak.cell 4
          have o0 : W5.cell? ⟨bb, 0, none⟩ = some (.int .i64 2) := Hw5.out.2.cell 0
          have o1 : W5.cell? ⟨bb, 1, none⟩ = some (.int .i64 C) := Hw5.out.2.cell 1
          clear hE hRr
          go_wp2_with fail
          refine wp_region_quietW (by kernel_rfl) (by kernel_rfl) ?_
          repeat (refine qw_step (fun K hK => ?_); go_simp; first | (refine hK _ ?_; clear hK K) | (apply Exists.intro; refine ⟨fun _ => ?_, hK _ ?_⟩; (go_at_call 15; exact Calls.quiet_of_same (wd_exp (Hw5.out.1.drewN _) E HX.out.1)); clear hK K) | (apply Exists.intro; refine ⟨fun _ => ?_, hK _ ?_⟩; (go_at_call 19; exact Calls.quiet_of_same (wd_reach (Hw5.out.1.drewN _) H2.out.1 Rr HX.out.2)); clear hK K))
          refine qw_nil ?_
          intro W6 hw'
          obtain ⟨nq, hw''⟩ := hw'
          have Hw6 : Hid (Wd w a p (kissS s C y2) W6 ∧ Bk bb W6 (spL ⟨2, C, y2⟩).toArray 39) := by rw [hw'']; exact ⟨Hw5.out.1.drewN _, Hw5.out.2⟩
          clear hw'' c3 c4 o0 o1
          have c4 : W6.cell? ⟨w.heap.size, 4, none⟩ = some (.int .i64 a.maxp) := Hw6.out.1.ak.cell 4
          have o0 : W6.cell? ⟨bb, 0, none⟩ = some (.int .i64 2) := Hw6.out.2.cell 0
          have o1 : W6.cell? ⟨bb, 1, none⟩ = some (.int .i64 C) := Hw6.out.2.cell 1
          go_wp2_with fail
          refine wp_region_quietW (by kernel_rfl) (by kernel_rfl) ?_
          repeat (refine qw_step (fun K hK => ?_); go_simp; refine hK _ ?_; clear hK K)
          refine qw_nil ?_
          intro W7 hw'
          obtain ⟨nq, hw''⟩ := hw'
          have Hw7 : Hid (Wd w a p (kissS s C y2) W7) := by rw [hw'']; exact Hw6.out.1.drewN _
          clear hw'' o0 o1 c4 m1 m2 d1 d2 d3 d4
          go_wp2_with fail
          skip
          go_roundw
          case rel => exact ⟨k + 1, kissS s C y2, by go_num, by omega, ⟨Hw7.out, H2.out⟩⟩
          case measure => simp [intOf]; omega
        · have f0 : (y0 == 0) = false := by simpa using e0
          have HC : Hid (∀ j u, (spL ⟨y0, y1, y2⟩)[j]? = some u → wr.cell? (ad.add j) = some u) := hac
          have hT : Bk bb ((wr.alloc (.cells #[.int .i64 0, .int .i64 0, .int .i64 0] 39)).setRow bb (spL ⟨y0, y1, y2⟩).toArray) (spL ⟨y0, y1, y2⟩).toArray 39 := setRow_heap _ _ _ _ _ _ HT.out
          have b0 : ((wr.alloc (.cells #[.int .i64 0, .int .i64 0, .int .i64 0] 39)).setRow bb (spL ⟨y0, y1, y2⟩).toArray).cell? ⟨bb, 0, none⟩ = some (.int .i64 y0) := hT.cell 0
          have b1 : ((wr.alloc (.cells #[.int .i64 0, .int .i64 0, .int .i64 0] 39)).setRow bb (spL ⟨y0, y1, y2⟩).toArray).cell? ⟨bb, 1, none⟩ = some (.int .i64 y1) := hT.cell 1
          have b2 : ((wr.alloc (.cells #[.int .i64 0, .int .i64 0, .int .i64 0] 39)).setRow bb (spL ⟨y0, y1, y2⟩).toArray).cell? ⟨bb, 2, none⟩ = some (.int .i64 y2) := hT.cell 2
          have b3 : ((wr.alloc (.cells #[.int .i64 0, .int .i64 0, .int .i64 0] 39)).setRow bb (spL ⟨y0, y1, y2⟩).toArray).frozen? ⟨bb, 1, none⟩ = false := hT.frozen 1
          have HZ : Hid (Wd w a p s (((wr.alloc (.cells #[.int .i64 0, .int .i64 0, .int .i64 0] 39)).setRow bb (spL ⟨y0, y1, y2⟩).toArray).setCell ⟨bb, 1, none⟩ (.int .i64 C)) ∧ Bk bb (((wr.alloc (.cells #[.int .i64 0, .int .i64 0, .int .i64 0] 39)).setRow bb (spL ⟨y0, y1, y2⟩).toArray).setCell ⟨bb, 1, none⟩ (.int .i64 C)) (spL ⟨y0, C, y2⟩).toArray 39) := ⟨((HS.out.1.alloc _).row bb _ Hbb.out.1 Hbb.out.2).cell bb 1 _ Hbb.out.1 Hbb.out.2, hT.set (j := 1) (.int .i64 C)⟩
          clear hac hT
          go_wp2_with (first
            | (refine step_ldat 39 _ rfl rfl ad (by rfl) (spL ⟨y0, y1, y2⟩) _ Try.underlying39 rfl (by kernel_rfl) HC.out ?_)
            | (refine step_stR (by rfl) _ _ rfl bb (spL ⟨y0, y1, y2⟩).toArray (by rfl) (by rfl) #[.int .i64 0, .int .i64 0, .int .i64 0] (by kernel_rfl) (by rfl) (by kernel_rfl) HT.out ?_))
          refine world_hid fun W5 hW5 => ?_
          have Hw5 : Hid (Wd w a p s W5 ∧ Bk bb W5 (spL ⟨y0, C, y2⟩).toArray 39) := by rw [hW5.out]; exact HZ.out
          clear hW5 b0 b1 b2 b3
          have H2 : Hid (OkL s ∧ a.minp ≤ s.least ∧ s.most = a.maxp) := HS.out.2
          obtain ⟨E, hE⟩ : ∃ E, (s).exp = E := ⟨_, rfl⟩
          obtain ⟨Rr, hRr⟩ : ∃ R, (s).reach = R := ⟨_, rfl⟩
          have d1 : decide (E < a.minp) = false := by have := H2.out.1.le; have := H2.out.2.1; simp; omega
          have d2 : decide (a.maxp < E) = false := by have := H2.out.1.em; have := H2.out.2.2; simp; omega
          have d3 : decide (Rr < 0) = false := by have := H2.out.1.r0; simp; omega
          have d4 : decide (255 < Rr) = false := by have := H2.out.1.r1; simp; omega
          have HX : Hid ((s).exp = E ∧ (s).reach = Rr) := ⟨hE, hRr⟩
          have c3 : W5.cell? ⟨w.heap.size, 3, none⟩ = some (.int .i64 a.minp) := Hw5.out.1.ak.cell 3
          have c4 : W5.cell? ⟨w.heap.size, 4, none⟩ = some (.int .i64 a.maxp) := Hw5.out.1.ak.cell 4
          have o0 : W5.cell? ⟨bb, 0, none⟩ = some (.int .i64 y0) := Hw5.out.2.cell 0
          have o1 : W5.cell? ⟨bb, 1, none⟩ = some (.int .i64 C) := Hw5.out.2.cell 1
          clear hE hRr
          refine wp_region_quietW (by kernel_rfl) (by kernel_rfl) ?_
          repeat (refine qw_step (fun K hK => ?_); go_simp; first | (refine hK _ ?_; clear hK K) | (apply Exists.intro; refine ⟨fun _ => ?_, hK _ ?_⟩; (go_at_call 15; exact Calls.quiet_of_same (wd_exp (Hw5.out.1.drewN _) E HX.out.1)); clear hK K) | (apply Exists.intro; refine ⟨fun _ => ?_, hK _ ?_⟩; (go_at_call 19; exact Calls.quiet_of_same (wd_reach (Hw5.out.1.drewN _) H2.out.1 Rr HX.out.2)); clear hK K))
          refine qw_nil ?_
          intro W6 hw'
          obtain ⟨nq, hw''⟩ := hw'
          have Hw6 : Hid (Wd w a p (s) W6 ∧ Bk bb W6 (spL ⟨y0, C, y2⟩).toArray 39) := by rw [hw'']; exact ⟨Hw5.out.1.drewN _, Hw5.out.2⟩
          clear hw'' c3 c4 o0 o1
          have c4 : W6.cell? ⟨w.heap.size, 4, none⟩ = some (.int .i64 a.maxp) := Hw6.out.1.ak.cell 4
          have o0 : W6.cell? ⟨bb, 0, none⟩ = some (.int .i64 y0) := Hw6.out.2.cell 0
          have o1 : W6.cell? ⟨bb, 1, none⟩ = some (.int .i64 C) := Hw6.out.2.cell 1
          go_wp2_with fail
          refine wp_region_quietW (by kernel_rfl) (by kernel_rfl) ?_
          repeat (refine qw_step (fun K hK => ?_); go_simp; refine hK _ ?_; clear hK K)
          refine qw_nil ?_
          intro W7 hw'
          obtain ⟨nq, hw''⟩ := hw'
          have Hw7 : Hid (Wd w a p (s) W7) := by rw [hw'']; exact Hw6.out.1.drewN _
          clear hw'' o0 o1 c4 m1 m2 d1 d2 d3 d4
          go_wp2_with fail
          skip
          go_roundw
          case rel => exact ⟨k + 1, s, by go_num, by omega, ⟨Hw7.out, H2.out⟩⟩
          case measure => simp [intOf]; omega
      · go_wp2_with fail
        rw [hQ.out]
        go_ret
        exact ⟨rfl, HS.out.1.be⟩
  · have HN : Hid (∀ u, Calls Try.prog 9 #[.agg (asL a).toArray, .int .i64 0, .int .i64 draw] u fun e w' => e = .returned (.tuple #[.pointer none, .int .i64 1]) ∧ Below u.heap.size u w') := fun u => new_bad a 0 draw u ha
    have HR : Hid (∀ u, Calls Try.prog 10 #[.agg (asL a).toArray, .int .i64 0, .int .i64 draw] u fun e w' => e = .returned (.tuple #[.pointer none, .int .i64 1]) ∧ Below u.heap.size u w') := fun u => rnew_bad a 0 draw u ha
    go_wp2_with (first
      | (refine step_ldat 25 _ rfl rfl ⟨w.heap.size, 0, none⟩ (by rfl) (asL a) _ Try.underlying25 rfl (by kernel_rfl) HC.out ?_)
      | (go_at_call 9; refine (HN.out _).mono ?_; rintro e w1 ⟨rfl, hb1⟩; have HC1 : Hid (∀ j u, (asL a)[j]? = some u → w1.cell? ((⟨w.heap.size, 0, none⟩ : Addr).add j) = some u) := (cells_of (l := asL a) (HW.out.1.kept (hb1.block _ HW.out.1.lt))); have H1 : Hid (Below W.heap.size W w1) := hb1; clear hb1)
      | (refine step_ldat 25 _ rfl rfl ⟨w.heap.size, 0, none⟩ (by rfl) (asL a) _ Try.underlying25 rfl (by kernel_rfl) HC1.out ?_)
      | (go_at_call 10; refine (HR.out _).mono ?_; rintro e w2 ⟨rfl, hb2⟩; have H2 : Hid (Below w1.heap.size w1 w2) := hb2; clear hb2))
    rw [hQ.out]
    go_ret
    exact ⟨rfl, HW.out.2.1.trans ((H1.out.trans (H2.out.mono H1.out.size)).mono (by have := HW.out.2.2; omega))⟩
end Go.Proofs.Ytocaiimhbmhakaa
