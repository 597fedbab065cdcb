/- PollDue, walked. -/
import Derived.Test.YtocaiimhbmhakaaJI
namespace Go.Proofs.Ytocaiimhbmhakaa
open Go Go.RowKit Go.Sort
set_option maxHeartbeats 1000000 in
theorem PollDue_row (a : As) (now later draw : Int) (w : World) :
    Calls Try.prog 3 #[.agg (asL a).toArray, .int .i64 now, .int .i64 later, .int .i64 draw] w fun e w' => e = .returned (.bool true) ∧ Below w.heap.size w w' := by
  go_enter Try.func3, Try.ntmps3
  refine post_hid fun Q hQ => ?_
  refine seq_hid fun R hR => ?_
  go_wp2_with fail
  refine world_hid fun W hW => ?_
  have HW : Hid (Bk w.heap.size W (asL a).toArray 25 ∧ Below w.heap.size w W ∧ W.heap.size = w.heap.size + 1) := by
    rw [hW.out]
    exact ⟨Bk.new _ _ _, (Below.refl _ _).alloc (Nat.le_refl _) _, by simp⟩
  clear hW
  rw [hR.out]
  clear hR
  have HC : Hid (∀ j u, (asL a)[j]? = some u → W.cell? ((⟨w.heap.size, 0, none⟩ : Addr).add j) = some u) := cells_of (l := asL a) HW.out.1
  by_cases ha : okA a
  · have HN : Hid (Calls Try.prog 9 #[.agg (asL a).toArray, .int .i64 now, .int .i64 draw] W _) := new_ok a now draw W ha
    refine seq_hid fun R hR => ?_
    go_wp2_with (first
      | (refine step_ldat 25 _ rfl rfl ⟨w.heap.size, 0, none⟩ (by rfl) (asL a) _ Try.underlying25 rfl (by kernel_rfl) HC.out ?_)
      | (go_at_call 9; refine HN.out.mono ?_; rintro e w1 ⟨p, rfl, hp1, hp2, hb1⟩; have H1 : Hid (Po w1 p (newS a now draw) ∧ W.heap.size ≤ p ∧ Below W.heap.size W w1 ∧ Bk w.heap.size w1 (asL a).toArray 25) := ⟨hp1, hp2, hb1, HW.out.1.kept (hb1.block _ HW.out.1.lt)⟩; clear hp1 hp2 hb1))
    rw [hR.out]
    clear hR HN HC
    have HC : Hid (∀ j u, (asL a)[j]? = some u → w1.cell? ((⟨w.heap.size, 0, none⟩ : Addr).add j) = some u) := cells_of (l := asL a) H1.out.2.2.2
    have HN : Hid (Calls Try.prog 10 #[.agg (asL a).toArray, .int .i64 now, .int .i64 draw] w1 _) := rnew_ok a now draw w1 ha
    refine seq_hid fun R hR => ?_
    go_wp2_with (first
      | (refine step_ldat 25 _ rfl rfl ⟨w.heap.size, 0, none⟩ (by rfl) (asL a) _ Try.underlying25 rfl (by kernel_rfl) HC.out ?_)
      | (go_at_call 10; refine HN.out.mono ?_; rintro e w2 ⟨q, rfl, hq1, hq2, hb2⟩; have H2 : Hid (Rp w2 q a (newS a now draw) ∧ w1.heap.size ≤ q ∧ Below w1.heap.size w1 w2) := ⟨hq1, hq2, hb2⟩; clear hq1 hq2 hb2))
    rw [hR.out]
    clear hR HN HC
    obtain ⟨s0, hs0⟩ : ∃ s0, newS a now draw = s0 := ⟨_, rfl⟩
    have HD : Hid (Wd w a p s0 w2 ∧ Rp w2 q a s0 ∧ p ≠ q ∧ w.heap.size < q) := by
      rw [← hs0]
      have l1 := Bk.lt H1.out.1
      have l2 := HW.out.2.2
      have l3 := H1.out.2.1
      have l4 := H2.out.2.1
      exact ⟨⟨H1.out.1.below H2.out.2.2 l1, H1.out.2.2.2.kept (H2.out.2.2.block _ H1.out.2.2.2.lt), HW.out.2.1.trans ((H1.out.2.2.1.trans (H2.out.2.2.mono H1.out.2.2.1.size)).mono (by omega)), by omega⟩, H2.out.1, by omega, by omega⟩
    have HO : Hid (OkL s0 ∧ newS a now draw = s0 ∧ okA a) := ⟨by rw [← hs0]; exact OkL.new ha _ _, hs0, ha⟩
    clear H1 H2 HW hs0 ha
    have Hw2 : Hid (Wd w a p s0 w2) := HD.out.1
    clear HD
    refine seq_hid fun R hR => ?_
    go_wp2_with fail
    rw [hR.out]
    clear hR
    refine seq_hid fun R hR => ?_
    by_cases hle : now ≤ later
    · obtain ⟨D1, hD1⟩ : ∃ D, decide (s0.next ≤ ck now) = D := ⟨_, rfl⟩
      obtain ⟨D2, hD2⟩ : ∃ D, decide (s0.next ≤ ck later) = D := ⟨_, rfl⟩
      have hDD : D1 = true → D2 = true := by
        intro h
        rw [← hD1] at h
        rw [← hD2]
        have := ck_mono hle
        simp at h ⊢
        omega
      have H1 : Hid (Calls Try.prog 11 #[.pointer (some ⟨p, 0, none⟩), .int .i64 now] w2 _) := wd_due Hw2.out now D1 hD1
      have H2 : Hid (∀ u, Wd w a p s0 u → Calls Try.prog 11 #[.pointer (some ⟨p, 0, none⟩), .int .i64 later] u fun e w' => e = .returned (.bool D2) ∧ Wd w a p s0 w') := fun u h => wd_due h later D2 hD2
      clear hD1 hD2
      rcases D1 with _ | _
      · go_wp2_with (first
          | (go_at_call 11; refine H1.out.mono ?_; rintro e w3 ⟨rfl, h3⟩; have Hw3 : Hid (Wd w a p s0 w3) := h3; clear h3))
        rw [hR.out]
        clear hR
        by_cases hr : 0 ≤ now ∧ now ≤ 536870912
        · obtain ⟨r0, r1⟩ := hr
          have c3 : w3.cell? ⟨w.heap.size, 3, none⟩ = some (.int .i64 a.minp) := Hw3.out.ak.cell 3
          obtain ⟨s1, hs1⟩ : ∃ s1, sentS s0 now a.minp = s1 := ⟨_, rfl⟩
          have hn := sent_next HO.out.1 now a.minp
          rw [hs1] at hn
          obtain ⟨N, hN⟩ : ∃ N, s1.next = N := ⟨_, rfl⟩
          rw [hN] at hn
          have hk : ck now = now := by unfold ck; omega
          have hm := pw_bd s0.most HO.out.1.hi
          rw [hk] at hn
          have q1 : decide (s1.next ≤ ck now) = false := by rw [hN, hk]; simp; omega
          have q2 : decide (s1.next ≤ ck (now + 1)) = false := by rw [hN]; simp; unfold ck; omega
          have q3 : decide (s1.next ≤ ck N) = true := by rw [hN]; simp; unfold ck; omega
          have HQ : Hid (decide (s1.next ≤ ck now) = false ∧ decide (s1.next ≤ ck (now + 1)) = false ∧ decide (s1.next ≤ ck N) = true ∧ s1.next = N) := ⟨q1, q2, q3, hN⟩
          have HSe : Hid (∀ u, Wd w a p s0 u → Calls Try.prog 12 #[.pointer (some ⟨p, 0, none⟩), .int .i64 now, .int .i64 a.minp] u fun e w' => e = .returned (.tuple #[]) ∧ Wd w a p s1 w') := fun u h => wd_sent h HO.out.1 _ _ s1 hs1
          have HDa : Hid (∀ u, Wd w a p s1 u → Calls Try.prog 11 #[.pointer (some ⟨p, 0, none⟩), .int .i64 now] u fun e w' => e = .returned (.bool false) ∧ Wd w a p s1 w') := fun u h => wd_due h _ _ HQ.out.1
          have HDb : Hid (∀ u, Wd w a p s1 u → Calls Try.prog 11 #[.pointer (some ⟨p, 0, none⟩), .int .i64 (now + 1)] u fun e w' => e = .returned (.bool false) ∧ Wd w a p s1 w') := fun u h => wd_due h _ _ HQ.out.2.1
          have HDc : Hid (∀ u, Wd w a p s1 u → Calls Try.prog 11 #[.pointer (some ⟨p, 0, none⟩), .int .i64 N] u fun e w' => e = .returned (.bool true) ∧ Wd w a p s1 w') := fun u h => wd_due h _ _ HQ.out.2.2.1
          clear q1 q2 q3 hN hn hs1 hk hm
          go_wp2_with (first
            | (go_at_call 12; refine (HSe.out _ Hw3.out).mono ?_; rintro e w5 ⟨rfl, h5⟩; have HW5 : Hid (Wd w a p s1 w5) := h5; clear h5))
          refine (HDa.out _ HW5.out).mono ?_
          rintro e w6 ⟨rfl, h6⟩
          have HW6 : Hid (Wd w a p s1 w6) := h6
          clear h6
          go_wp2_with fail
          refine (HDb.out _ HW6.out).mono ?_
          rintro e w7 ⟨rfl, h7⟩
          have HW7 : Hid (Wd w a p s1 w7) := h7
          clear h7
          go_wp2_with fail
          refine (wd_next HW7.out N HQ.out.2.2.2).mono ?_
          rintro e wq ⟨rfl, hwq⟩
          rw [hwq]
          clear hwq
          go_wp2_with fail
          refine (HDc.out _ HW7.out).mono ?_
          rintro e w8 ⟨rfl, h8⟩
          have HW8 : Hid (Wd w a p s1 w8) := h8
          clear h8
          go_wp2_with fail
          rw [hQ.out]
          go_ret
          exact ⟨rfl, HW8.out.be⟩
        · go_wp2_with fail
          all_goals first
            | (exfalso; omega)
            | (rw [hQ.out]
               go_ret
               exact ⟨rfl, Hw3.out.be⟩)
      · obtain rfl : D2 = true := hDD rfl
        go_wp2_with fail
        refine H1.out.mono ?_
        rintro e w3 ⟨rfl, h3⟩
        have Hw3 : Hid (Wd w a p s0 w3) := h3
        clear h3
        go_wp2_with fail
        refine (H2.out _ Hw3.out).mono ?_
        rintro e w4 ⟨rfl, h4⟩
        have Hw4 : Hid (Wd w a p s0 w4) := h4
        clear h4
        go_wp2_with fail
        rw [hR.out]
        clear hR
        by_cases hr : 0 ≤ now ∧ now ≤ 536870912
        · obtain ⟨r0, r1⟩ := hr
          have c3 : w4.cell? ⟨w.heap.size, 3, none⟩ = some (.int .i64 a.minp) := Hw4.out.ak.cell 3
          obtain ⟨s1, hs1⟩ : ∃ s1, sentS s0 now a.minp = s1 := ⟨_, rfl⟩
          have hn := sent_next HO.out.1 now a.minp
          rw [hs1] at hn
          obtain ⟨N, hN⟩ : ∃ N, s1.next = N := ⟨_, rfl⟩
          rw [hN] at hn
          have hk : ck now = now := by unfold ck; omega
          have hm := pw_bd s0.most HO.out.1.hi
          rw [hk] at hn
          have q1 : decide (s1.next ≤ ck now) = false := by rw [hN, hk]; simp; omega
          have q2 : decide (s1.next ≤ ck (now + 1)) = false := by rw [hN]; simp; unfold ck; omega
          have q3 : decide (s1.next ≤ ck N) = true := by rw [hN]; simp; unfold ck; omega
          have HQ : Hid (decide (s1.next ≤ ck now) = false ∧ decide (s1.next ≤ ck (now + 1)) = false ∧ decide (s1.next ≤ ck N) = true ∧ s1.next = N) := ⟨q1, q2, q3, hN⟩
          have HSe : Hid (∀ u, Wd w a p s0 u → Calls Try.prog 12 #[.pointer (some ⟨p, 0, none⟩), .int .i64 now, .int .i64 a.minp] u fun e w' => e = .returned (.tuple #[]) ∧ Wd w a p s1 w') := fun u h => wd_sent h HO.out.1 _ _ s1 hs1
          have HDa : Hid (∀ u, Wd w a p s1 u → Calls Try.prog 11 #[.pointer (some ⟨p, 0, none⟩), .int .i64 now] u fun e w' => e = .returned (.bool false) ∧ Wd w a p s1 w') := fun u h => wd_due h _ _ HQ.out.1
          have HDb : Hid (∀ u, Wd w a p s1 u → Calls Try.prog 11 #[.pointer (some ⟨p, 0, none⟩), .int .i64 (now + 1)] u fun e w' => e = .returned (.bool false) ∧ Wd w a p s1 w') := fun u h => wd_due h _ _ HQ.out.2.1
          have HDc : Hid (∀ u, Wd w a p s1 u → Calls Try.prog 11 #[.pointer (some ⟨p, 0, none⟩), .int .i64 N] u fun e w' => e = .returned (.bool true) ∧ Wd w a p s1 w') := fun u h => wd_due h _ _ HQ.out.2.2.1
          clear q1 q2 q3 hN hn hs1 hk hm
          go_wp2_with (first
            | (go_at_call 12; refine (HSe.out _ Hw4.out).mono ?_; rintro e w5 ⟨rfl, h5⟩; have HW5 : Hid (Wd w a p s1 w5) := h5; clear h5))
          refine (HDa.out _ HW5.out).mono ?_
          rintro e w6 ⟨rfl, h6⟩
          have HW6 : Hid (Wd w a p s1 w6) := h6
          clear h6
          go_wp2_with fail
          refine (HDb.out _ HW6.out).mono ?_
          rintro e w7 ⟨rfl, h7⟩
          have HW7 : Hid (Wd w a p s1 w7) := h7
          clear h7
          go_wp2_with fail
          refine (wd_next HW7.out N HQ.out.2.2.2).mono ?_
          rintro e wq ⟨rfl, hwq⟩
          rw [hwq]
          clear hwq
          go_wp2_with fail
          refine (HDc.out _ HW7.out).mono ?_
          rintro e w8 ⟨rfl, h8⟩
          have HW8 : Hid (Wd w a p s1 w8) := h8
          clear h8
          go_wp2_with fail
          rw [hQ.out]
          go_ret
          exact ⟨rfl, HW8.out.be⟩
        · go_wp2_with fail
          all_goals first
            | (exfalso; omega)
            | (rw [hQ.out]
               go_ret
               exact ⟨rfl, Hw4.out.be⟩)
    · go_wp2_with fail
      rw [hR.out]
      clear hR
      by_cases hr : 0 ≤ now ∧ now ≤ 536870912
      · obtain ⟨r0, r1⟩ := hr
        have c3 : w2.cell? ⟨w.heap.size, 3, none⟩ = some (.int .i64 a.minp) := Hw2.out.ak.cell 3
        obtain ⟨s1, hs1⟩ : ∃ s1, sentS s0 now a.minp = s1 := ⟨_, rfl⟩
        have hn := sent_next HO.out.1 now a.minp
        rw [hs1] at hn
        obtain ⟨N, hN⟩ : ∃ N, s1.next = N := ⟨_, rfl⟩
        rw [hN] at hn
        have hk : ck now = now := by unfold ck; omega
        have hm := pw_bd s0.most HO.out.1.hi
        rw [hk] at hn
        have q1 : decide (s1.next ≤ ck now) = false := by rw [hN, hk]; simp; omega
        have q2 : decide (s1.next ≤ ck (now + 1)) = false := by rw [hN]; simp; unfold ck; omega
        have q3 : decide (s1.next ≤ ck N) = true := by rw [hN]; simp; unfold ck; omega
        have HQ : Hid (decide (s1.next ≤ ck now) = false ∧ decide (s1.next ≤ ck (now + 1)) = false ∧ decide (s1.next ≤ ck N) = true ∧ s1.next = N) := ⟨q1, q2, q3, hN⟩
        have HSe : Hid (∀ u, Wd w a p s0 u → Calls Try.prog 12 #[.pointer (some ⟨p, 0, none⟩), .int .i64 now, .int .i64 a.minp] u fun e w' => e = .returned (.tuple #[]) ∧ Wd w a p s1 w') := fun u h => wd_sent h HO.out.1 _ _ s1 hs1
        have HDa : Hid (∀ u, Wd w a p s1 u → Calls Try.prog 11 #[.pointer (some ⟨p, 0, none⟩), .int .i64 now] u fun e w' => e = .returned (.bool false) ∧ Wd w a p s1 w') := fun u h => wd_due h _ _ HQ.out.1
        have HDb : Hid (∀ u, Wd w a p s1 u → Calls Try.prog 11 #[.pointer (some ⟨p, 0, none⟩), .int .i64 (now + 1)] u fun e w' => e = .returned (.bool false) ∧ Wd w a p s1 w') := fun u h => wd_due h _ _ HQ.out.2.1
        have HDc : Hid (∀ u, Wd w a p s1 u → Calls Try.prog 11 #[.pointer (some ⟨p, 0, none⟩), .int .i64 N] u fun e w' => e = .returned (.bool true) ∧ Wd w a p s1 w') := fun u h => wd_due h _ _ HQ.out.2.2.1
        clear q1 q2 q3 hN hn hs1 hk hm
        go_wp2_with (first
          | (go_at_call 12; refine (HSe.out _ Hw2.out).mono ?_; rintro e w5 ⟨rfl, h5⟩; have HW5 : Hid (Wd w a p s1 w5) := h5; clear h5))
        refine (HDa.out _ HW5.out).mono ?_
        rintro e w6 ⟨rfl, h6⟩
        have HW6 : Hid (Wd w a p s1 w6) := h6
        clear h6
        go_wp2_with fail
        refine (HDb.out _ HW6.out).mono ?_
        rintro e w7 ⟨rfl, h7⟩
        have HW7 : Hid (Wd w a p s1 w7) := h7
        clear h7
        go_wp2_with fail
        refine (wd_next HW7.out N HQ.out.2.2.2).mono ?_
        rintro e wq ⟨rfl, hwq⟩
        rw [hwq]
        clear hwq
        go_wp2_with fail
        refine (HDc.out _ HW7.out).mono ?_
        rintro e w8 ⟨rfl, h8⟩
        have HW8 : Hid (Wd w a p s1 w8) := h8
        clear h8
        go_wp2_with fail
        rw [hQ.out]
        go_ret
        exact ⟨rfl, HW8.out.be⟩
      · go_wp2_with fail
        all_goals first
          | (exfalso; omega)
          | (rw [hQ.out]
             go_ret
             exact ⟨rfl, Hw2.out.be⟩)
  · have HN : Hid (∀ u, Calls Try.prog 9 #[.agg (asL a).toArray, .int .i64 now, .int .i64 draw] u fun e w' => e = .returned (.tuple #[.pointer none, .int .i64 1]) ∧ Below u.heap.size u w') := fun u => new_bad a now draw u ha
    have HR : Hid (∀ u, Calls Try.prog 10 #[.agg (asL a).toArray, .int .i64 now, .int .i64 draw] u fun e w' => e = .returned (.tuple #[.pointer none, .int .i64 1]) ∧ Below u.heap.size u w') := fun u => rnew_bad a now draw u ha
    go_wp2_with (first
      | (refine step_ldat 25 _ rfl rfl ⟨w.heap.size, 0, none⟩ (by rfl) (asL a) _ Try.underlying25 rfl (by kernel_rfl) HC.out ?_)
      | (go_at_call 9; refine (HN.out _).mono ?_; rintro e w1 ⟨rfl, hb1⟩; have HC1 : Hid (∀ j u, (asL a)[j]? = some u → w1.cell? ((⟨w.heap.size, 0, none⟩ : Addr).add j) = some u) := (cells_of (l := asL a) (HW.out.1.kept (hb1.block _ HW.out.1.lt))); have H1 : Hid (Below W.heap.size W w1) := hb1; clear hb1)
      | (refine step_ldat 25 _ rfl rfl ⟨w.heap.size, 0, none⟩ (by rfl) (asL a) _ Try.underlying25 rfl (by kernel_rfl) HC1.out ?_)
      | (go_at_call 10; refine (HR.out _).mono ?_; rintro e w2 ⟨rfl, hb2⟩; have H2 : Hid (Below w1.heap.size w1 w2) := hb2; clear hb2))
    rw [hQ.out]
    go_ret
    exact ⟨rfl, HW.out.2.1.trans ((H1.out.trans (H2.out.mono H1.out.size)).mono (by have := HW.out.2.2; omega))⟩
end Go.Proofs.Ytocaiimhbmhakaa
