/- PollRates, walked. -/
import Derived.Test.YtocaiimhbmhakaaJS
import Derived.Test.YtocaiimhbmhakaaGQ
namespace Go.Proofs.Ytocaiimhbmhakaa
open Go Go.RowKit Go.Sort
set_option maxRecDepth 20000 in
set_option maxHeartbeats 4000000 in
theorem PollRates_row (a : As) (draw sys : Int) (v : Value) (bs : List Bool) (w : World) (hv : Sb w.heap.size w v bs) :
    Calls Try.prog 7 #[.agg (asL a).toArray, .int .i64 draw, .int .i64 sys, v] w fun e w' => e = .returned (.bool true) ∧ Below w.heap.size w w' := by
  obtain ⟨ao, cap, rfl, -⟩ := hv.ex
  obtain ⟨n, hn⟩ : ∃ n, n = bs.length := ⟨_, rfl⟩
  rw [← hn] at hv ⊢
  have HV : Hid (Sb w.heap.size w (.slice ao n cap) bs ∧ n = bs.length) := ⟨hv, hn⟩
  clear hv hn
  go_enter Try.func7, Try.ntmps7
  refine post_hid fun Q hQ => ?_
  refine seq_hid fun R hR => ?_
  go_wp2_with fail
  refine world_hid fun W hW => ?_
  have HW : Hid (Bk w.heap.size W (asL a).toArray 25 ∧ Below w.heap.size w W ∧ W.heap.size = w.heap.size + 1) := by
    rw [hW.out]
    exact ⟨Bk.new _ _ _, (Below.refl _ _).alloc (Nat.le_refl _) _, by simp⟩
  clear hW
  rw [hR.out]
  clear hR
  have HC : Hid (∀ j u, (asL a)[j]? = some u → W.cell? ((⟨w.heap.size, 0, none⟩ : Addr).add j) = some u) := cells_of (l := asL a) HW.out.1
  by_cases hlen : 4096 < (n : Int)
  · go_wp2_with fail
    rw [hQ.out]
    go_ret
    exact ⟨rfl, HW.out.2.1⟩
  refine seq_hid fun R hR => ?_
  go_wp2_with fail
  rw [hR.out]
  clear hR
  by_cases ha : okA a
  · have HN : Hid (Calls Try.prog 9 #[.agg (asL a).toArray, .int .i64 0, .int .i64 draw] W _) := new_ok a 0 draw W ha
    refine seq_hid fun R hR => ?_
    go_wp2_with (first
      | (refine step_ldat 25 _ rfl rfl ⟨w.heap.size, 0, none⟩ (by rfl) (asL a) _ Try.underlying25 rfl (by kernel_rfl) HC.out ?_)
      | (go_at_call 9; refine HN.out.mono ?_; rintro e w1 ⟨p, rfl, hp1, hp2, hb1⟩; have H1 : Hid (Po w1 p (newS a 0 draw) ∧ W.heap.size ≤ p ∧ Below W.heap.size W w1 ∧ Bk w.heap.size w1 (asL a).toArray 25) := ⟨hp1, hp2, hb1, HW.out.1.kept (hb1.block _ HW.out.1.lt)⟩; clear hp1 hp2 hb1))
    rw [hR.out]
    clear hR HN HC
    have HC : Hid (∀ j u, (asL a)[j]? = some u → w1.cell? ((⟨w.heap.size, 0, none⟩ : Addr).add j) = some u) := cells_of (l := asL a) H1.out.2.2.2
    have HN : Hid (Calls Try.prog 10 #[.agg (asL a).toArray, .int .i64 0, .int .i64 draw] w1 _) := rnew_ok a 0 draw w1 ha
    refine seq_hid fun R hR => ?_
    go_wp2_with (first
      | (refine step_ldat 25 _ rfl rfl ⟨w.heap.size, 0, none⟩ (by rfl) (asL a) _ Try.underlying25 rfl (by kernel_rfl) HC.out ?_)
      | (go_at_call 10; refine HN.out.mono ?_; rintro e w2 ⟨q, rfl, hq1, hq2, hb2⟩; have H2 : Hid (Rp w2 q a (newS a 0 draw) ∧ w1.heap.size ≤ q ∧ Below w1.heap.size w1 w2) := ⟨hq1, hq2, hb2⟩; clear hq1 hq2 hb2))
    rw [hR.out]
    clear hR HN HC
    obtain ⟨s0, hs0⟩ : ∃ s0, newS a 0 draw = s0 := ⟨_, rfl⟩
    have HD : Hid (Wd w a p s0 w2 ∧ Rp w2 q a s0 ∧ p ≠ q ∧ w.heap.size < q) := by
      rw [← hs0]
      have l1 := Bk.lt H1.out.1
      have l2 := HW.out.2.2
      have l3 := H1.out.2.1
      have l4 := H2.out.2.1
      exact ⟨⟨H1.out.1.below H2.out.2.2 l1, H1.out.2.2.2.kept (H2.out.2.2.block _ H1.out.2.2.2.lt), HW.out.2.1.trans ((H1.out.2.2.1.trans (H2.out.2.2.mono H1.out.2.2.1.size)).mono (by omega)), by omega⟩, H2.out.1, by omega, by omega⟩
    have HO : Hid (OkL s0 ∧ newS a 0 draw = s0 ∧ okA a) := ⟨by rw [← hs0]; exact OkL.new ha _ _, hs0, ha⟩
    clear H1 H2 HW hs0 ha
    have Hw2 : Hid (Wd w a p s0 w2) := HD.out.1
    clear HD
    refine seq_hid fun R hR => ?_
    go_wp2_with fail
    rw [hR.out]
    clear hR
    obtain ⟨B, hB⟩ : ∃ B, B = w2.heap.size := ⟨_, rfl⟩
    have HB : Hid (p < B ∧ w.heap.size < B) := ⟨by rw [hB]; exact Bk.lt Hw2.out.po, by rw [hB]; have := Bk.lt Hw2.out.po; have := Hw2.out.lt; omega⟩
    refine seq_hid fun R hR => ?_
    go_wp2_with fail
    refine world_hid fun w3 hw3 => ?_
    have Hw3 : Hid (Wd w a p s0 w3 ∧ OI w3 B (.slice (some ⟨w2.heap.size, 0, none⟩) 0 0) [] ∧ B ≤ w3.heap.size ∧ Rt a [] s0) := by
      rw [hw3.out, hB]
      refine ⟨Hw2.out.alloc _, oi_fresh _ _ (Nat.le_refl _), by simp, ⟨HO.out.1, by rw [← HO.out.2.1]; rfl, ?_, ?_, fun j => by simp, fun j hj => absurd hj (by simp), fun j hj => absurd hj (by simp)⟩⟩
      · rw [← HO.out.2.1]
        show 0 ≤ ck 0 + max draw 0 % pw a.minp
        have h1 := pw_ge a.minp HO.out.2.2.1
        have := Int.emod_nonneg (max draw 0) (b := pw a.minp) (by omega)
        have := ck_bd 0
        omega
      · rw [← HO.out.2.1]
        show ck 0 + max draw 0 % pw a.minp ≤ _
        have h0 := HO.out.2.2
        unfold okA at h0
        have h1 := pw_ge a.minp h0.1
        have h2 := pw_bd a.minp (by omega)
        have := Int.emod_lt_of_pos (max draw 0) (b := pw a.minp) (by omega)
        have : ck 0 = 0 := by decide
        simp
        omega
    clear hw3 hB
    rw [hR.out]
    clear hR
    go_wp2_with fail
    go_loopw [13, 14] (fun av i wr => ∃ (k : Nat) (s : Pl) (L : List Int), i = .int .i64 k ∧ (k : Int) ≤ n ∧ L.length = k ∧ Hid (Wd w a p s wr ∧ OI wr B av L ∧ B ≤ wr.heap.size ∧ Rt a L s)) (fun _ i _ => n - (intOf i).toNat)
    case atStart => exact ⟨0, s0, [], rfl, by omega, rfl, Hw3.out⟩
    case round =>
      obtain ⟨k, s, L, rfl, hk, hLk, HS⟩ := hrel
      obtain ⟨av, hav⟩ : ∃ av, av = u13 := ⟨_, rfl⟩
      subst hav
      by_cases hlt : (k : Int) < n
      · obtain ⟨lo, lc, hlv⟩ := HS.out.2.1.form
        rw [hLk] at hlv
        subst hlv
        have hkx : k < bs.length := by have := HV.out.2; omega
        obtain ⟨ad, hix, hab, hac⟩ := (HV.out.1.below HS.out.1.be (Nat.le_refl _)).at k hkx
        obtain ⟨b, hb⟩ : ∃ b, b = bs.getD k false := ⟨_, rfl⟩
        rw [← hb] at hac
        have HC : Hid (∀ u s', Wd w a p s' u → u.cell? ad = some (.bool b)) := fun u s' hu => (hu.be.cell (p := ad) hab).trans ((HS.out.1.be.cell (p := ad) hab).symm.trans hac)
        have HLk : Hid (L.length = k) := hLk
        obtain ⟨N, hN⟩ : ∃ N, s.next = N := ⟨_, rfl⟩
        have hN0 : 0 ≤ N := by have := HS.out.2.2.2.n0; omega
        have hN1 : N ≤ 4195328 := by have := HS.out.2.2.2.nb; omega
        have HN : Hid (s.next = N) := hN
        obtain ⟨s2, hs2⟩ : ∃ s2, sentS s N sys = s2 := ⟨_, rfl⟩
        have HR2 : Hid (Rt a (L ++ [N]) s2 ∧ sentS s N sys = s2) := ⟨by rw [← hs2, ← hN]; exact HS.out.2.2.2.sent (by omega) sys, hs2⟩
        have hd1 : decide (s.next ≤ ck N) = true := by rw [hN]; simp; unfold ck; omega
        have HO1 : Hid (Wo w a p B s (.slice lo k lc) L wr) := ⟨HS.out.1, HS.out.2.1, HS.out.2.2.1, HB.out.1, HB.out.2⟩
        have HD1 : Hid (Calls Try.prog 11 #[.pointer (some ⟨p, 0, none⟩), .int .i64 N] wr _) := wo_due HO1.out N true hd1
        obtain ⟨D, hD⟩ : ∃ D, decide (s.next ≤ ck (N - 1)) = D := ⟨_, rfl⟩
        have HD2 : Hid (∀ u, Wo w a p B s (.slice lo k lc) L u → Calls Try.prog 11 #[.pointer (some ⟨p, 0, none⟩), .int .i64 (N - 1)] u fun e w' => e = .returned (.bool D) ∧ Wo w a p B s (.slice lo k lc) L w') := fun u h => wo_due h (N - 1) D hD
        have hDN : D = true → N = 0 := by
          intro h
          rw [← hD, hN] at h
          simp at h
          unfold ck at h
          omega
        clear hab hb hkx hac hN hs2 hd1 hD hLk
        go_wp2_with (go_at_call 13; refine (wd_next HS.out.1 N HN.out).mono ?_; rintro e wq ⟨rfl, hwq⟩; rw [hwq]; clear hwq)
        refine HD1.out.mono ?_
        rintro e w4 ⟨rfl, h4⟩
        have Hw4 : Hid (Wo w a p B s (.slice lo k lc) L w4) := h4
        clear h4
        go_wp2_with fail
        refine (HD2.out _ Hw4.out).mono ?_
        rintro e w5 ⟨rfl, h5⟩
        have Hw5 : Hid (Wo w a p B s (.slice lo k lc) L w5) := h5
        clear h5 HD1 HD2
        rcases D with _ | _
        · go_wp2_with (first
            | (obtain ⟨v6, w6, hr6, ho6, hb6⟩ := run_appI w5 B (.slice lo k lc) L N Hw5.out.oi (by have := HLk.out; omega) Hw5.out.sz; refine wpList_appI rfl _ _ rfl rfl _ _ _ (by rfl) (by rfl) hr6 ?_; have Hw6 : Hid (Wo w a p B s v6 (L ++ [N]) w6) := Hw5.out.app ho6 hb6; clear hr6 ho6 hb6))
          obtain ⟨n6, hn6⟩ : ∃ n6, n6 = (L ++ [N]).length := ⟨_, rfl⟩
          obtain ⟨lo6, lc6, hv6⟩ := Hw6.out.oi.form
          rw [← hn6] at hv6
          subst hv6
          have Hn6 : Hid (n6 = k + 1) := by show n6 = _; rw [hn6, List.length_append, HLk.out]; rfl
          clear hn6
          refine (wo_sent Hw6.out HS.out.2.2.2.ok N sys s2 HR2.out.2).mono ?_
          rintro e w7 ⟨rfl, h7⟩
          have Hw7 : Hid (Wo w a p B s2 (.slice lo6 n6 lc6) (L ++ [N]) w7) := h7
          have cb : w7.cell? ad = some (.bool b) := HC.out w7 s2 h7.wd
          clear h7
          rcases b with _ | _
          · go_wp2_with fail
            clear cb
            by_cases h6 : (6 : Int) ≤ (k : Int)
            · obtain ⟨j, hj⟩ : ∃ j : Nat, k = j + 6 := ⟨k - 6, by omega⟩
              obtain ⟨ad1, hx1, x1⟩ := Hw7.out.oi.at k (by rw [List.length_append, HLk.out]; simp)
              obtain ⟨ad2, hx2, x2⟩ := Hw7.out.oi.at j (by rw [List.length_append, HLk.out]; simp; omega)
              have e1 : (L ++ [N]).getD k 0 = N := by rw [getD_snoc, HLk.out]; simp
              obtain ⟨M, hM⟩ : ∃ M, L.getD j 0 = M := ⟨_, rfl⟩
              have e2 : (L ++ [N]).getD j 0 = M := by rw [getD_snoc, HLk.out, if_pos (by omega)]; exact hM
              rw [e1] at x1
              rw [e2] at x2
              have q := HS.out.2.2.2.six j (by rw [HLk.out]; omega)
              rw [hM, HN.out] at q
              have hge := HS.out.2.2.2.ge j (by rw [HLk.out]; omega)
              rw [hM, HN.out] at hge
              have hMl : 0 ≤ M := by rw [← hM]; exact HS.out.2.2.2.p0 j
              have c3 : w7.cell? ⟨w.heap.size, 3, none⟩ = some (.int .i64 a.minp) := Hw7.out.wd.ak.cell 3
              obtain ⟨P, hP⟩ : ∃ P, pw a.minp = P := ⟨_, rfl⟩
              have hm := HO.out.2.2
              unfold okA at hm
              have bP := pw_bd a.minp (by omega)
              rw [hP] at q bP
              have kP2 : IntKind.i64.wrap (2 ^ min (IntKind.u64.wrap a.minp).toNat 64) = P := by
                have e1 : IntKind.u64.wrap a.minp = a.minp := by rw [IntKind.wrap_u64]; omega
                have e2 : min a.minp.toNat 64 = a.minp.toNat := by omega
                rw [e1, e2, IntWalk.i64_left, ← hP]
                exact w64 (pw a.minp) (by omega) (by omega)
              have kJ : IntKind.i64.wrap ((k : Int) - 6) = (j : Int) := by rw [IntWalk.i64_left, w64 _ (by omega) (by omega)]; omega
              obtain ⟨D6, hD6⟩ : ∃ d, N - M = d := ⟨_, rfl⟩
              have kD : IntKind.i64.wrap (N - M) = D6 := by rw [IntWalk.i64_left, ← hD6]; exact w64 _ (by omega) (by omega)
              have d6 : decide (D6 < P) = false := decide_eq_false (by omega)
              have g6 : decide ((6 : Int) ≤ (k : Int)) = true := decide_eq_true (by omega)
              clear e1 e2 hM q hge hMl hP hm bP hD6 hj
              go_wp2_with fail
              refine wp_region_quietW (by kernel_rfl) (by kernel_rfl) ?_
              repeat (refine qw_step (fun K hK => ?_); go_simp; refine hK _ ?_; clear hK K)
              refine qw_nil ?_
              intro W9 hw'
              obtain ⟨nq, hw''⟩ := hw'
              have Hw9 : Hid (Wo w a p B (s2) (.slice lo6 n6 lc6) (L ++ [N]) W9) := by rw [hw'']; exact Hw7.out.drewN _
              clear hw''
              clear x1 x2 c3 kP2 kJ kD d6 g6 hx1 hx2
              go_wp2_with fail
              go_roundw
              case rel => exact ⟨k + 1, s2, L ++ [N], by go_num, by omega, by rw [List.length_append, HLk.out]; rfl, ⟨Hw9.out.wd, Hw9.out.oi, Hw9.out.sz, HR2.out.1⟩⟩
              case measure => simp [intOf]; omega
            · have c3 : w7.cell? ⟨w.heap.size, 3, none⟩ = some (.int .i64 a.minp) := Hw7.out.wd.ak.cell 3
              have g6 : decide ((6 : Int) ≤ (k : Int)) = false := decide_eq_false (by omega)
              go_wp2_with fail
              refine wp_region_quietW (by kernel_rfl) (by kernel_rfl) ?_
              repeat (refine qw_step (fun K hK => ?_); go_simp; refine hK _ ?_; clear hK K)
              refine qw_nil ?_
              intro W9 hw'
              obtain ⟨nq, hw''⟩ := hw'
              have Hw9 : Hid (Wo w a p B (s2) (.slice lo6 n6 lc6) (L ++ [N]) W9) := by rw [hw'']; exact Hw7.out.drewN _
              clear hw''
              clear c3 g6
              go_wp2_with fail
              go_roundw
              case rel => exact ⟨k + 1, s2, L ++ [N], by go_num, by omega, by rw [List.length_append, HLk.out]; rfl, ⟨Hw9.out.wd, Hw9.out.oi, Hw9.out.sz, HR2.out.1⟩⟩
              case measure => simp [intOf]; omega
          · go_wp2_with fail
            refine (wo_heard Hw7.out HR2.out.1.ok _).mono ?_
            rintro e w8 ⟨rfl, h8⟩
            have Hw8 : Hid (Wo w a p B (heardS s2) (.slice lo6 n6 lc6) (L ++ [N]) w8) := h8
            clear h8 cb
            by_cases h6 : (6 : Int) ≤ (k : Int)
            · obtain ⟨j, hj⟩ : ∃ j : Nat, k = j + 6 := ⟨k - 6, by omega⟩
              obtain ⟨ad1, hx1, x1⟩ := Hw8.out.oi.at k (by rw [List.length_append, HLk.out]; simp)
              obtain ⟨ad2, hx2, x2⟩ := Hw8.out.oi.at j (by rw [List.length_append, HLk.out]; simp; omega)
              have e1 : (L ++ [N]).getD k 0 = N := by rw [getD_snoc, HLk.out]; simp
              obtain ⟨M, hM⟩ : ∃ M, L.getD j 0 = M := ⟨_, rfl⟩
              have e2 : (L ++ [N]).getD j 0 = M := by rw [getD_snoc, HLk.out, if_pos (by omega)]; exact hM
              rw [e1] at x1
              rw [e2] at x2
              have q := HS.out.2.2.2.six j (by rw [HLk.out]; omega)
              rw [hM, HN.out] at q
              have hge := HS.out.2.2.2.ge j (by rw [HLk.out]; omega)
              rw [hM, HN.out] at hge
              have hMl : 0 ≤ M := by rw [← hM]; exact HS.out.2.2.2.p0 j
              have c3 : w8.cell? ⟨w.heap.size, 3, none⟩ = some (.int .i64 a.minp) := Hw8.out.wd.ak.cell 3
              obtain ⟨P, hP⟩ : ∃ P, pw a.minp = P := ⟨_, rfl⟩
              have hm := HO.out.2.2
              unfold okA at hm
              have bP := pw_bd a.minp (by omega)
              rw [hP] at q bP
              have kP2 : IntKind.i64.wrap (2 ^ min (IntKind.u64.wrap a.minp).toNat 64) = P := by
                have e1 : IntKind.u64.wrap a.minp = a.minp := by rw [IntKind.wrap_u64]; omega
                have e2 : min a.minp.toNat 64 = a.minp.toNat := by omega
                rw [e1, e2, IntWalk.i64_left, ← hP]
                exact w64 (pw a.minp) (by omega) (by omega)
              have kJ : IntKind.i64.wrap ((k : Int) - 6) = (j : Int) := by rw [IntWalk.i64_left, w64 _ (by omega) (by omega)]; omega
              obtain ⟨D6, hD6⟩ : ∃ d, N - M = d := ⟨_, rfl⟩
              have kD : IntKind.i64.wrap (N - M) = D6 := by rw [IntWalk.i64_left, ← hD6]; exact w64 _ (by omega) (by omega)
              have d6 : decide (D6 < P) = false := decide_eq_false (by omega)
              have g6 : decide ((6 : Int) ≤ (k : Int)) = true := decide_eq_true (by omega)
              clear e1 e2 hM q hge hMl hP hm bP hD6 hj
              go_wp2_with fail
              refine wp_region_quietW (by kernel_rfl) (by kernel_rfl) ?_
              repeat (refine qw_step (fun K hK => ?_); go_simp; refine hK _ ?_; clear hK K)
              refine qw_nil ?_
              intro W9 hw'
              obtain ⟨nq, hw''⟩ := hw'
              have Hw9 : Hid (Wo w a p B (heardS s2) (.slice lo6 n6 lc6) (L ++ [N]) W9) := by rw [hw'']; exact Hw8.out.drewN _
              clear hw''
              clear x1 x2 c3 kP2 kJ kD d6 g6 hx1 hx2
              go_wp2_with fail
              go_roundw
              case rel => exact ⟨k + 1, heardS s2, L ++ [N], by go_num, by omega, by rw [List.length_append, HLk.out]; rfl, ⟨Hw9.out.wd, Hw9.out.oi, Hw9.out.sz, HR2.out.1.heard⟩⟩
              case measure => simp [intOf]; omega
            · have c3 : w8.cell? ⟨w.heap.size, 3, none⟩ = some (.int .i64 a.minp) := Hw8.out.wd.ak.cell 3
              have g6 : decide ((6 : Int) ≤ (k : Int)) = false := decide_eq_false (by omega)
              go_wp2_with fail
              refine wp_region_quietW (by kernel_rfl) (by kernel_rfl) ?_
              repeat (refine qw_step (fun K hK => ?_); go_simp; refine hK _ ?_; clear hK K)
              refine qw_nil ?_
              intro W9 hw'
              obtain ⟨nq, hw''⟩ := hw'
              have Hw9 : Hid (Wo w a p B (heardS s2) (.slice lo6 n6 lc6) (L ++ [N]) W9) := by rw [hw'']; exact Hw8.out.drewN _
              clear hw''
              clear c3 g6
              go_wp2_with fail
              go_roundw
              case rel => exact ⟨k + 1, heardS s2, L ++ [N], by go_num, by omega, by rw [List.length_append, HLk.out]; rfl, ⟨Hw9.out.wd, Hw9.out.oi, Hw9.out.sz, HR2.out.1.heard⟩⟩
              case measure => simp [intOf]; omega
        · have hn0 := hDN rfl
          subst hn0
          go_wp2_with (first
            | (obtain ⟨v6, w6, hr6, ho6, hb6⟩ := run_appI w5 B (.slice lo k lc) L 0 Hw5.out.oi (by have := HLk.out; omega) Hw5.out.sz; refine wpList_appI rfl _ _ rfl rfl _ _ _ (by rfl) (by rfl) hr6 ?_; have Hw6 : Hid (Wo w a p B s v6 (L ++ [0]) w6) := Hw5.out.app ho6 hb6; clear hr6 ho6 hb6))
          obtain ⟨n6, hn6⟩ : ∃ n6, n6 = (L ++ [0]).length := ⟨_, rfl⟩
          obtain ⟨lo6, lc6, hv6⟩ := Hw6.out.oi.form
          rw [← hn6] at hv6
          subst hv6
          have Hn6 : Hid (n6 = k + 1) := by show n6 = _; rw [hn6, List.length_append, HLk.out]; rfl
          clear hn6
          refine (wo_sent Hw6.out HS.out.2.2.2.ok 0 sys s2 HR2.out.2).mono ?_
          rintro e w7 ⟨rfl, h7⟩
          have Hw7 : Hid (Wo w a p B s2 (.slice lo6 n6 lc6) (L ++ [0]) w7) := h7
          have cb : w7.cell? ad = some (.bool b) := HC.out w7 s2 h7.wd
          clear h7
          rcases b with _ | _
          · go_wp2_with fail
            clear cb
            by_cases h6 : (6 : Int) ≤ (k : Int)
            · obtain ⟨j, hj⟩ : ∃ j : Nat, k = j + 6 := ⟨k - 6, by omega⟩
              obtain ⟨ad1, hx1, x1⟩ := Hw7.out.oi.at k (by rw [List.length_append, HLk.out]; simp)
              obtain ⟨ad2, hx2, x2⟩ := Hw7.out.oi.at j (by rw [List.length_append, HLk.out]; simp; omega)
              have e1 : (L ++ [0]).getD k 0 = 0 := by rw [getD_snoc, HLk.out]; simp
              obtain ⟨M, hM⟩ : ∃ M, L.getD j 0 = M := ⟨_, rfl⟩
              have e2 : (L ++ [0]).getD j 0 = M := by rw [getD_snoc, HLk.out, if_pos (by omega)]; exact hM
              rw [e1] at x1
              rw [e2] at x2
              have q := HS.out.2.2.2.six j (by rw [HLk.out]; omega)
              rw [hM, HN.out] at q
              have hge := HS.out.2.2.2.ge j (by rw [HLk.out]; omega)
              rw [hM, HN.out] at hge
              have hMl : 0 ≤ M := by rw [← hM]; exact HS.out.2.2.2.p0 j
              have c3 : w7.cell? ⟨w.heap.size, 3, none⟩ = some (.int .i64 a.minp) := Hw7.out.wd.ak.cell 3
              obtain ⟨P, hP⟩ : ∃ P, pw a.minp = P := ⟨_, rfl⟩
              have hm := HO.out.2.2
              unfold okA at hm
              have bP := pw_bd a.minp (by omega)
              rw [hP] at q bP
              exfalso
              omega
            · have c3 : w7.cell? ⟨w.heap.size, 3, none⟩ = some (.int .i64 a.minp) := Hw7.out.wd.ak.cell 3
              have g6 : decide ((6 : Int) ≤ (k : Int)) = false := decide_eq_false (by omega)
              go_wp2_with fail
              refine wp_region_quietW (by kernel_rfl) (by kernel_rfl) ?_
              repeat (refine qw_step (fun K hK => ?_); go_simp; refine hK _ ?_; clear hK K)
              refine qw_nil ?_
              intro W9 hw'
              obtain ⟨nq, hw''⟩ := hw'
              have Hw9 : Hid (Wo w a p B (s2) (.slice lo6 n6 lc6) (L ++ [0]) W9) := by rw [hw'']; exact Hw7.out.drewN _
              clear hw''
              clear c3 g6
              go_wp2_with fail
              go_roundw
              case rel => exact ⟨k + 1, s2, L ++ [0], by go_num, by omega, by rw [List.length_append, HLk.out]; rfl, ⟨Hw9.out.wd, Hw9.out.oi, Hw9.out.sz, HR2.out.1⟩⟩
              case measure => simp [intOf]; omega
          · go_wp2_with fail
            refine (wo_heard Hw7.out HR2.out.1.ok _).mono ?_
            rintro e w8 ⟨rfl, h8⟩
            have Hw8 : Hid (Wo w a p B (heardS s2) (.slice lo6 n6 lc6) (L ++ [0]) w8) := h8
            clear h8 cb
            by_cases h6 : (6 : Int) ≤ (k : Int)
            · obtain ⟨j, hj⟩ : ∃ j : Nat, k = j + 6 := ⟨k - 6, by omega⟩
              obtain ⟨ad1, hx1, x1⟩ := Hw8.out.oi.at k (by rw [List.length_append, HLk.out]; simp)
              obtain ⟨ad2, hx2, x2⟩ := Hw8.out.oi.at j (by rw [List.length_append, HLk.out]; simp; omega)
              have e1 : (L ++ [0]).getD k 0 = 0 := by rw [getD_snoc, HLk.out]; simp
              obtain ⟨M, hM⟩ : ∃ M, L.getD j 0 = M := ⟨_, rfl⟩
              have e2 : (L ++ [0]).getD j 0 = M := by rw [getD_snoc, HLk.out, if_pos (by omega)]; exact hM
              rw [e1] at x1
              rw [e2] at x2
              have q := HS.out.2.2.2.six j (by rw [HLk.out]; omega)
              rw [hM, HN.out] at q
              have hge := HS.out.2.2.2.ge j (by rw [HLk.out]; omega)
              rw [hM, HN.out] at hge
              have hMl : 0 ≤ M := by rw [← hM]; exact HS.out.2.2.2.p0 j
              have c3 : w8.cell? ⟨w.heap.size, 3, none⟩ = some (.int .i64 a.minp) := Hw8.out.wd.ak.cell 3
              obtain ⟨P, hP⟩ : ∃ P, pw a.minp = P := ⟨_, rfl⟩
              have hm := HO.out.2.2
              unfold okA at hm
              have bP := pw_bd a.minp (by omega)
              rw [hP] at q bP
              exfalso
              omega
            · have c3 : w8.cell? ⟨w.heap.size, 3, none⟩ = some (.int .i64 a.minp) := Hw8.out.wd.ak.cell 3
              have g6 : decide ((6 : Int) ≤ (k : Int)) = false := decide_eq_false (by omega)
              go_wp2_with fail
              refine wp_region_quietW (by kernel_rfl) (by kernel_rfl) ?_
              repeat (refine qw_step (fun K hK => ?_); go_simp; refine hK _ ?_; clear hK K)
              refine qw_nil ?_
              intro W9 hw'
              obtain ⟨nq, hw''⟩ := hw'
              have Hw9 : Hid (Wo w a p B (heardS s2) (.slice lo6 n6 lc6) (L ++ [0]) W9) := by rw [hw'']; exact Hw8.out.drewN _
              clear hw''
              clear c3 g6
              go_wp2_with fail
              go_roundw
              case rel => exact ⟨k + 1, heardS s2, L ++ [0], by go_num, by omega, by rw [List.length_append, HLk.out]; rfl, ⟨Hw9.out.wd, Hw9.out.oi, Hw9.out.sz, HR2.out.1.heard⟩⟩
              case measure => simp [intOf]; omega
      · go_wp2_with fail
        rw [hQ.out]
        go_ret
        exact ⟨rfl, HS.out.1.be⟩
  · have HN : Hid (∀ u, Calls Try.prog 9 #[.agg (asL a).toArray, .int .i64 0, .int .i64 draw] u fun e w' => e = .returned (.tuple #[.pointer none, .int .i64 1]) ∧ Below u.heap.size u w') := fun u => new_bad a 0 draw u ha
    have HR : Hid (∀ u, Calls Try.prog 10 #[.agg (asL a).toArray, .int .i64 0, .int .i64 draw] u fun e w' => e = .returned (.tuple #[.pointer none, .int .i64 1]) ∧ Below u.heap.size u w') := fun u => rnew_bad a 0 draw u ha
    go_wp2_with (first
      | (refine step_ldat 25 _ rfl rfl ⟨w.heap.size, 0, none⟩ (by rfl) (asL a) _ Try.underlying25 rfl (by kernel_rfl) HC.out ?_)
      | (go_at_call 9; refine (HN.out _).mono ?_; rintro e w1 ⟨rfl, hb1⟩; have HC1 : Hid (∀ j u, (asL a)[j]? = some u → w1.cell? ((⟨w.heap.size, 0, none⟩ : Addr).add j) = some u) := (cells_of (l := asL a) (HW.out.1.kept (hb1.block _ HW.out.1.lt))); have H1 : Hid (Below W.heap.size W w1) := hb1; clear hb1)
      | (refine step_ldat 25 _ rfl rfl ⟨w.heap.size, 0, none⟩ (by rfl) (asL a) _ Try.underlying25 rfl (by kernel_rfl) HC1.out ?_)
      | (go_at_call 10; refine (HR.out _).mono ?_; rintro e w2 ⟨rfl, hb2⟩; have H2 : Hid (Below w1.heap.size w1 w2) := hb2; clear hb2))
    rw [hQ.out]
    go_ret
    exact ⟨rfl, HW.out.2.1.trans ((H1.out.trans (H2.out.mono H1.out.size)).mono (by have := HW.out.2.2; omega))⟩
end Go.Proofs.Ytocaiimhbmhakaa
