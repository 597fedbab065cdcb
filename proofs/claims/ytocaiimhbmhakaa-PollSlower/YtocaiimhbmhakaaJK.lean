/- PollSlower, walked. -/
import Derived.Test.YtocaiimhbmhakaaJI
namespace Go.Proofs.Ytocaiimhbmhakaa
open Go Go.RowKit Go.Sort
set_option maxHeartbeats 1000000 in
theorem PollSlower_row (a : As) (x : Int) (v : Value) (ss : List Stp) (w : World) (hv : Sp w.heap.size w v ss) :
    Calls Try.prog 4 #[.agg (asL a).toArray, .int .i64 x, v] w fun e w' => e = .returned (.bool true) ∧ Below w.heap.size w w' := by
  obtain ⟨ao, cap, rfl, -⟩ := hv.ex
  obtain ⟨n, hn⟩ : ∃ n, n = ss.length := ⟨_, rfl⟩
  rw [← hn] at hv ⊢
  have HV : Hid (Sp w.heap.size w (.slice ao n cap) ss ∧ n = ss.length) := ⟨hv, hn⟩
  clear hv hn
  go_enter Try.func4, Try.ntmps4
  refine post_hid fun Q hQ => ?_
  refine seq_hid fun R hR => ?_
  go_wp2_with fail
  refine world_hid fun W hW => ?_
  have HW : Hid (Bk w.heap.size W (asL a).toArray 25 ∧ Below w.heap.size w W ∧ W.heap.size = w.heap.size + 1) := by
    rw [hW.out]
    exact ⟨Bk.new _ _ _, (Below.refl _ _).alloc (Nat.le_refl _) _, by simp⟩
  clear hW
  rw [hR.out]
  clear hR
  have HC : Hid (∀ j u, (asL a)[j]? = some u → W.cell? ((⟨w.heap.size, 0, none⟩ : Addr).add j) = some u) := cells_of (l := asL a) HW.out.1
  by_cases hlen : 4096 < (n : Int)
  · go_wp2_with fail
    rw [hQ.out]
    go_ret
    exact ⟨rfl, HW.out.2.1⟩
  refine seq_hid fun R hR => ?_
  go_wp2_with fail
  rw [hR.out]
  clear hR
  by_cases ha : okA a
  · have HN : Hid (Calls Try.prog 9 #[.agg (asL a).toArray, .int .i64 0, .int .i64 0] W _) := new_ok a 0 0 W ha
    refine seq_hid fun R hR => ?_
    go_wp2_with (first
      | (refine step_ldat 25 _ rfl rfl ⟨w.heap.size, 0, none⟩ (by rfl) (asL a) _ Try.underlying25 rfl (by kernel_rfl) HC.out ?_)
      | (go_at_call 9; refine HN.out.mono ?_; rintro e w1 ⟨p, rfl, hp1, hp2, hb1⟩; have H1 : Hid (Po w1 p (newS a 0 0) ∧ W.heap.size ≤ p ∧ Below W.heap.size W w1 ∧ Bk w.heap.size w1 (asL a).toArray 25) := ⟨hp1, hp2, hb1, HW.out.1.kept (hb1.block _ HW.out.1.lt)⟩; clear hp1 hp2 hb1))
    rw [hR.out]
    clear hR HN HC
    have HC : Hid (∀ j u, (asL a)[j]? = some u → w1.cell? ((⟨w.heap.size, 0, none⟩ : Addr).add j) = some u) := cells_of (l := asL a) H1.out.2.2.2
    have HN : Hid (Calls Try.prog 10 #[.agg (asL a).toArray, .int .i64 0, .int .i64 0] w1 _) := rnew_ok a 0 0 w1 ha
    refine seq_hid fun R hR => ?_
    go_wp2_with (first
      | (refine step_ldat 25 _ rfl rfl ⟨w.heap.size, 0, none⟩ (by rfl) (asL a) _ Try.underlying25 rfl (by kernel_rfl) HC.out ?_)
      | (go_at_call 10; refine HN.out.mono ?_; rintro e w2 ⟨q, rfl, hq1, hq2, hb2⟩; have H2 : Hid (Rp w2 q a (newS a 0 0) ∧ w1.heap.size ≤ q ∧ Below w1.heap.size w1 w2) := ⟨hq1, hq2, hb2⟩; clear hq1 hq2 hb2))
    rw [hR.out]
    clear hR HN HC
    obtain ⟨s0, hs0⟩ : ∃ s0, newS a 0 0 = s0 := ⟨_, rfl⟩
    have HD : Hid (Wd w a p s0 w2 ∧ Rp w2 q a s0 ∧ p ≠ q ∧ w.heap.size < q) := by
      rw [← hs0]
      have l1 := Bk.lt H1.out.1
      have l2 := HW.out.2.2
      have l3 := H1.out.2.1
      have l4 := H2.out.2.1
      exact ⟨⟨H1.out.1.below H2.out.2.2 l1, H1.out.2.2.2.kept (H2.out.2.2.block _ H1.out.2.2.2.lt), HW.out.2.1.trans ((H1.out.2.2.1.trans (H2.out.2.2.mono H1.out.2.2.1.size)).mono (by omega)), by omega⟩, H2.out.1, by omega, by omega⟩
    have HO : Hid (OkL s0 ∧ newS a 0 0 = s0 ∧ okA a) := ⟨by rw [← hs0]; exact OkL.new ha _ _, hs0, ha⟩
    clear H1 H2 HW hs0 ha
    have Hw2 : Hid (Wd w a p s0 w2) := HD.out.1
    clear HD
    refine seq_hid fun R hR => ?_
    go_wp2_with fail
    rw [hR.out]
    clear hR
    obtain ⟨s1, hs1⟩ : ∃ s1, kissS s0 0 x = s1 := ⟨_, rfl⟩
    obtain ⟨L, hL⟩ : ∃ L, s1.exp = L := ⟨_, rfl⟩
    have H3 : Hid (OkL s1 ∧ s1.least = L ∧ s1.exp = L ∧ min x a.maxp ≤ L) := by
      refine ⟨by rw [← hs1]; exact HO.out.1.kiss 0 x, by rw [← hL, ← hs1]; rfl, hL, ?_⟩
      rw [← hL, ← hs1]
      have e : s0.most = a.maxp := by rw [← HO.out.2.1]; rfl
      show min x a.maxp ≤ kiE s0 x
      unfold kiE
      rw [e]
      omega
    have HK : Hid (Calls Try.prog 14 #[.pointer (some ⟨p, 0, none⟩), .int .i64 0, .int .i64 x] w2 fun e w' => e = .returned (.tuple #[]) ∧ Wd w a p s1 w') := by
      rw [← hs1]; exact wd_kissed Hw2.out HO.out.1 0 x
    clear hs1 hL
    have mn := run_mn
    refine seq_hid fun R hR => ?_
    go_wp2_with (go_at_call 14; refine HK.out.mono ?_; rintro e w3 ⟨rfl, h3⟩; have Hw3 : Hid (Wd w a p s1 w3) := h3; clear h3)
    rw [hR.out]
    clear hR
    refine seq_hid fun R hR => ?_
    go_wp2_with (go_at_call 15; refine (wd_exp Hw3.out L H3.out.2.2.1).mono ?_; rintro e wq ⟨rfl, hwq⟩; rw [hwq]; clear hwq)
    rw [hR.out]
    clear hR
    have c4 : w3.cell? ⟨w.heap.size, 4, none⟩ = some (.int .i64 a.maxp) := Hw3.out.ak.cell 4
    have hmn : ¬ L < min x a.maxp := by have := H3.out.2.2.2; omega
    obtain ⟨M, hM⟩ : ∃ M, min x a.maxp = M := ⟨_, rfl⟩
    have m1 : ∀ u, (Builtin.min_ #[3, 3] 3 #[.int .i64 x, .int .i64 a.maxp]).run Try.prog u = .ok (.int .i64 M) u := fun u => by rw [run_mn, hM]
    rw [hM] at hmn
    clear mn hM
    refine seq_hid fun R hR => ?_
    go_wp2_with fail
    rw [hR.out]
    clear hR
    clear c4 m1 hmn
    go_wp2_with fail
    go_loopw [12] (fun i wr => ∃ (k : Nat) (s : Pl), i = .int .i64 k ∧ (k : Int) ≤ n ∧ Hid (Wd w a p s wr ∧ OkL s ∧ L ≤ s.least)) (fun i _ => n - (intOf i).toNat)
    case atStart => exact ⟨0, s1, rfl, by omega, ⟨Hw3.out, H3.out.1, Int.le_of_eq H3.out.2.1.symm⟩⟩
    case round =>
      obtain ⟨k, s, rfl, hk, HS⟩ := hrel
      by_cases hlt : (k : Int) < n
      · have hkx : k < ss.length := by have := HV.out.2; omega
        obtain ⟨ad, hix, hab, hac⟩ := (HV.out.1.below HS.out.1.be (Nat.le_refl _)).at k hkx
        obtain ⟨y, hy⟩ : ∃ y, y = ss.getD k z11 := ⟨_, rfl⟩
        rw [← hy] at hac
        have y0 : wr.cell? ad = some (.int .i64 y.k) := by have := hac 0 _ rfl; rw [show ad.add 0 = ad from by unfold Addr.add; rw [if_pos rfl]] at this; exact this
        have y1 : wr.cell? ⟨ad.block, ad.off + 1, none⟩ = some (.int .i64 y.t) := hac 1 _ rfl
        have y2 : wr.cell? ⟨ad.block, ad.off + 2, none⟩ = some (.int .i64 y.n) := hac 2 _ rfl
        clear hac hy hkx
        have HY : Hid (∀ u, Wd w a p s u ∨ (∃ s', Wd w a p s' u) → u.cell? ⟨ad.block, ad.off + 1, none⟩ = some (.int .i64 y.t) ∧ u.cell? ⟨ad.block, ad.off + 2, none⟩ = some (.int .i64 y.n)) := fun u hu => by
          have hb : Below w.heap.size w u := by
            rcases hu with h | ⟨s', h⟩ <;> exact h.be
          have b1 := hb.cell (p := ⟨ad.block, ad.off + 1, none⟩) hab
          have b2 := hb.cell (p := ⟨ad.block, ad.off + 2, none⟩) hab
          have c1 := HS.out.1.be.cell (p := ⟨ad.block, ad.off + 1, none⟩) hab
          have c2 := HS.out.1.be.cell (p := ⟨ad.block, ad.off + 2, none⟩) hab
          exact ⟨b1.trans (c1.symm.trans y1), b2.trans (c2.symm.trans y2)⟩
        clear hab
        by_cases e0 : y.k = 0
        · rw [e0] at y0
          obtain ⟨s2, hs2⟩ : ∃ s2, sentS s y.t y.n = s2 := ⟨_, rfl⟩
          have HC2 : Hid (∀ u, Wd w a p s u → Calls Try.prog 12 #[.pointer (some ⟨p, 0, none⟩), .int .i64 y.t, .int .i64 y.n] u fun e w' => e = .returned (.tuple #[]) ∧ Wd w a p s2 w') := fun u h => wd_sent h HS.out.2.1 _ _ s2 hs2
          have H2 : Hid (OkL s2 ∧ L ≤ s2.least) := by
            rw [← hs2]
            refine ⟨HS.out.2.1.sent _ _, ?_⟩
            have : (sentS s y.t y.n).least = s.least := by unfold sentS waitS; split <;> rfl
            rw [this]; exact HS.out.2.2
          clear hs2
          go_wp2_with fail
          go_region_held3 (fun w' => w'.cell? ⟨ad.block, ad.off + 1, none⟩ = some (.int .i64 y.t) ∧ w'.cell? ⟨ad.block, ad.off + 2, none⟩ = some (.int .i64 y.n)) (first | with_reducible exact ⟨y1, y2⟩ | with_reducible exact z12 | go_keep) ((go_at_call 12; refine (HC2.out _ HS.out.1.drew).mono ?_; rintro e w5 ⟨rfl, h5⟩; have z12 := HY.out w5 (.inr ⟨_, h5⟩); have Hw5 : Hid (Wd w a p s2 w5) := h5; clear h5))
          obtain ⟨X, hX⟩ : ∃ X, (s2).exp = X := ⟨_, rfl⟩
          have hXL : ¬ X < L := by have := H2.out.2; have := H2.out.1.le; omega
          have HX : Hid ((s2).exp = X) := hX
          clear hX
          go_wp2_with (go_at_call 15; refine (wd_exp Hw5.out X HX.out).mono ?_; rintro e wq ⟨rfl, hwq⟩; rw [hwq]; clear hwq)
          go_roundw
          case rel => exact ⟨k + 1, s2, by go_num, by omega, ⟨Hw5.out, H2.out.1, H2.out.2⟩⟩
          case measure => simp [intOf]; omega
        by_cases e1 : y.k = 1
        · rw [e1] at y0
          have H2 : Hid (OkL (heardS s) ∧ L ≤ (heardS s).least) := ⟨HS.out.2.1.heard, HS.out.2.2⟩
          go_wp2_with fail
          refine (wd_heard HS.out.1 HS.out.2.1 _).mono ?_
          rintro e w5 ⟨rfl, h5⟩
          have Hw5 : Hid (Wd w a p (heardS s) w5) := h5
          clear h5
          obtain ⟨X, hX⟩ : ∃ X, (heardS s).exp = X := ⟨_, rfl⟩
          have hXL : ¬ X < L := by have := H2.out.2; have := H2.out.1.le; omega
          have HX : Hid ((heardS s).exp = X) := hX
          clear hX
          go_wp2_with (go_at_call 15; refine (wd_exp Hw5.out X HX.out).mono ?_; rintro e wq ⟨rfl, hwq⟩; rw [hwq]; clear hwq)
          go_roundw
          case rel => exact ⟨k + 1, heardS s, by go_num, by omega, ⟨Hw5.out, H2.out.1, H2.out.2⟩⟩
          case measure => simp [intOf]; omega
        by_cases e2 : y.k = 2
        · rw [e2] at y0
          have HC2 : Hid (∀ u, Wd w a p s u → Calls Try.prog 14 #[.pointer (some ⟨p, 0, none⟩), .int .i64 y.t, .int .i64 y.n] u fun e w' => e = .returned (.tuple #[]) ∧ Wd w a p (kissS s y.t y.n) w') := fun u h => wd_kissed h HS.out.2.1 _ _
          have H2 : Hid (OkL (kissS s y.t y.n) ∧ L ≤ (kissS s y.t y.n).least) := by
            refine ⟨HS.out.2.1.kiss _ _, ?_⟩
            have h1 := HS.out.2.2
            have h2 := HS.out.2.1.le
            show L ≤ kiE s y.n
            unfold kiE
            omega
          go_wp2_with fail
          go_region_held3 (fun w' => w'.cell? ⟨ad.block, ad.off + 1, none⟩ = some (.int .i64 y.t) ∧ w'.cell? ⟨ad.block, ad.off + 2, none⟩ = some (.int .i64 y.n)) (first | with_reducible exact ⟨y1, y2⟩ | with_reducible exact z12 | go_keep) ((go_at_call 14; refine (HC2.out _ HS.out.1.drew).mono ?_; rintro e w5 ⟨rfl, h5⟩; have z12 := HY.out w5 (.inr ⟨_, h5⟩); have Hw5 : Hid (Wd w a p (kissS s y.t y.n) w5) := h5; clear h5))
          obtain ⟨X, hX⟩ : ∃ X, (kissS s y.t y.n).exp = X := ⟨_, rfl⟩
          have hXL : ¬ X < L := by have := H2.out.2; have := H2.out.1.le; omega
          have HX : Hid ((kissS s y.t y.n).exp = X) := hX
          clear hX
          go_wp2_with (go_at_call 15; refine (wd_exp Hw5.out X HX.out).mono ?_; rintro e wq ⟨rfl, hwq⟩; rw [hwq]; clear hwq)
          go_roundw
          case rel => exact ⟨k + 1, kissS s y.t y.n, by go_num, by omega, ⟨Hw5.out, H2.out.1, H2.out.2⟩⟩
          case measure => simp [intOf]; omega
        · have H2 : Hid (OkL s ∧ L ≤ s.least) := HS.out.2
          have Hwr : Hid (Wd w a p s wr) := HS.out.1
          obtain ⟨X, hX⟩ : ∃ X, (s).exp = X := ⟨_, rfl⟩
          have hXL : ¬ X < L := by have := H2.out.2; have := H2.out.1.le; omega
          have HX : Hid ((s).exp = X) := hX
          clear hX
          go_wp2_with (go_at_call 15; refine (wd_exp Hwr.out X HX.out).mono ?_; rintro e wq ⟨rfl, hwq⟩; rw [hwq]; clear hwq)
          go_roundw
          case rel => exact ⟨k + 1, s, by go_num, by omega, ⟨Hwr.out, H2.out.1, H2.out.2⟩⟩
          case measure => simp [intOf]; omega
      · go_wp2_with fail
        rw [hQ.out]
        go_ret
        exact ⟨rfl, HS.out.1.be⟩
  · have HN : Hid (∀ u, Calls Try.prog 9 #[.agg (asL a).toArray, .int .i64 0, .int .i64 0] u fun e w' => e = .returned (.tuple #[.pointer none, .int .i64 1]) ∧ Below u.heap.size u w') := fun u => new_bad a 0 0 u ha
    have HR : Hid (∀ u, Calls Try.prog 10 #[.agg (asL a).toArray, .int .i64 0, .int .i64 0] u fun e w' => e = .returned (.tuple #[.pointer none, .int .i64 1]) ∧ Below u.heap.size u w') := fun u => rnew_bad a 0 0 u ha
    go_wp2_with (first
      | (refine step_ldat 25 _ rfl rfl ⟨w.heap.size, 0, none⟩ (by rfl) (asL a) _ Try.underlying25 rfl (by kernel_rfl) HC.out ?_)
      | (go_at_call 9; refine (HN.out _).mono ?_; rintro e w1 ⟨rfl, hb1⟩; have HC1 : Hid (∀ j u, (asL a)[j]? = some u → w1.cell? ((⟨w.heap.size, 0, none⟩ : Addr).add j) = some u) := (cells_of (l := asL a) (HW.out.1.kept (hb1.block _ HW.out.1.lt))); have H1 : Hid (Below W.heap.size W w1) := hb1; clear hb1)
      | (refine step_ldat 25 _ rfl rfl ⟨w.heap.size, 0, none⟩ (by rfl) (asL a) _ Try.underlying25 rfl (by kernel_rfl) HC1.out ?_)
      | (go_at_call 10; refine (HR.out _).mono ?_; rintro e w2 ⟨rfl, hb2⟩; have H2 : Hid (Below w1.heap.size w1 w2) := hb2; clear hb2))
    rw [hQ.out]
    go_ret
    exact ⟨rfl, HW.out.2.1.trans ((H1.out.trans (H2.out.mono H1.out.size)).mono (by have := HW.out.2.2; omega))⟩
end Go.Proofs.Ytocaiimhbmhakaa
