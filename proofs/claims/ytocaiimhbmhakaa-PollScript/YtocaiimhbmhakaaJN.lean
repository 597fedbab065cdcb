/- PollScript, walked. -/
import Derived.Test.YtocaiimhbmhakaaJL
namespace Go.Proofs.Ytocaiimhbmhakaa
open Go Go.RowKit Go.Sort
set_option maxHeartbeats 1000000 in
theorem PollScript_row (a : As) (now draw : Int) (v : Value) (ss : List Stp) (w : World) (hv : Sp w.heap.size w v ss) :
    Calls Try.prog 5 #[.agg (asL a).toArray, .int .i64 now, .int .i64 draw, v] w fun e w' => e = .returned (.bool true) ∧ Below w.heap.size w w' := by
  obtain ⟨ao, cap, rfl, -⟩ := hv.ex
  obtain ⟨n, hn⟩ : ∃ n, n = ss.length := ⟨_, rfl⟩
  rw [← hn] at hv ⊢
  have HV : Hid (Sp w.heap.size w (.slice ao n cap) ss ∧ n = ss.length) := ⟨hv, hn⟩
  clear hv hn
  go_enter Try.func5, Try.ntmps5
  refine post_hid fun Q hQ => ?_
  refine seq_hid fun R hR => ?_
  go_wp2_with fail
  refine world_hid fun W hW => ?_
  have HW : Hid (Bk w.heap.size W (asL a).toArray 25 ∧ Below w.heap.size w W ∧ W.heap.size = w.heap.size + 1) := by
    rw [hW.out]
    exact ⟨Bk.new _ _ _, (Below.refl _ _).alloc (Nat.le_refl _) _, by simp⟩
  clear hW
  rw [hR.out]
  clear hR
  have HC : Hid (∀ j u, (asL a)[j]? = some u → W.cell? ((⟨w.heap.size, 0, none⟩ : Addr).add j) = some u) := cells_of (l := asL a) HW.out.1
  by_cases hlen : 65536 < (n : Int)
  · go_wp2_with fail
    rw [hQ.out]
    go_ret
    exact ⟨rfl, HW.out.2.1⟩
  refine seq_hid fun R hR => ?_
  go_wp2_with fail
  rw [hR.out]
  clear hR
  by_cases ha : okA a
  · have HN : Hid (Calls Try.prog 9 #[.agg (asL a).toArray, .int .i64 now, .int .i64 draw] W _) := new_ok a now draw W ha
    refine seq_hid fun R hR => ?_
    go_wp2_with (first
      | (refine step_ldat 25 _ rfl rfl ⟨w.heap.size, 0, none⟩ (by rfl) (asL a) _ Try.underlying25 rfl (by kernel_rfl) HC.out ?_)
      | (go_at_call 9; refine HN.out.mono ?_; rintro e w1 ⟨p, rfl, hp1, hp2, hb1⟩; have H1 : Hid (Po w1 p (newS a now draw) ∧ W.heap.size ≤ p ∧ Below W.heap.size W w1 ∧ Bk w.heap.size w1 (asL a).toArray 25) := ⟨hp1, hp2, hb1, HW.out.1.kept (hb1.block _ HW.out.1.lt)⟩; clear hp1 hp2 hb1))
    rw [hR.out]
    clear hR HN HC
    have HC : Hid (∀ j u, (asL a)[j]? = some u → w1.cell? ((⟨w.heap.size, 0, none⟩ : Addr).add j) = some u) := cells_of (l := asL a) H1.out.2.2.2
    have HN : Hid (Calls Try.prog 10 #[.agg (asL a).toArray, .int .i64 now, .int .i64 draw] w1 _) := rnew_ok a now draw w1 ha
    refine seq_hid fun R hR => ?_
    go_wp2_with (first
      | (refine step_ldat 25 _ rfl rfl ⟨w.heap.size, 0, none⟩ (by rfl) (asL a) _ Try.underlying25 rfl (by kernel_rfl) HC.out ?_)
      | (go_at_call 10; refine HN.out.mono ?_; rintro e w2 ⟨q, rfl, hq1, hq2, hb2⟩; have H2 : Hid (Rp w2 q a (newS a now draw) ∧ w1.heap.size ≤ q ∧ Below w1.heap.size w1 w2) := ⟨hq1, hq2, hb2⟩; clear hq1 hq2 hb2))
    rw [hR.out]
    clear hR HN HC
    obtain ⟨s0, hs0⟩ : ∃ s0, newS a now draw = s0 := ⟨_, rfl⟩
    have HD : Hid (Wd w a p s0 w2 ∧ Rp w2 q a s0 ∧ p ≠ q ∧ w.heap.size < q) := by
      rw [← hs0]
      have l1 := Bk.lt H1.out.1
      have l2 := HW.out.2.2
      have l3 := H1.out.2.1
      have l4 := H2.out.2.1
      exact ⟨⟨H1.out.1.below H2.out.2.2 l1, H1.out.2.2.2.kept (H2.out.2.2.block _ H1.out.2.2.2.lt), HW.out.2.1.trans ((H1.out.2.2.1.trans (H2.out.2.2.mono H1.out.2.2.1.size)).mono (by omega)), by omega⟩, H2.out.1, by omega, by omega⟩
    have HO : Hid (OkL s0 ∧ newS a now draw = s0 ∧ okA a) := ⟨by rw [← hs0]; exact OkL.new ha _ _, hs0, ha⟩
    clear H1 H2 HW hs0 ha
    have Hw2 : Hid (Wq w a p q s0 w2) := ⟨HD.out.1.po, HD.out.2.1, HD.out.2.2.1, Nat.le_of_lt HD.out.1.lt, Nat.le_of_lt HD.out.2.2.2, HD.out.1.be⟩
    clear HD
    refine seq_hid fun R hR => ?_
    go_wp2_with fail
    rw [hR.out]
    clear hR
    refine seq_hid fun R hR => ?_
    go_wp2_with fail
    rw [hR.out]
    clear hR
    refine seq_hid fun R hR => ?_
    go_wp2_with (go_at_call 17; refine (same_any Hw2.out HO.out.1).mono ?_; rintro e w3 ⟨rfl, h3⟩; have Hw3 : Hid (Wq w a p q s0 w3) := h3; clear h3)
    rw [hR.out]
    clear hR
    go_wp2_with fail
    go_loopw [13] (fun i wr => ∃ (k : Nat) (s : Pl), i = .int .i64 k ∧ (k : Int) ≤ n ∧ Hid (Wq w a p q s wr ∧ OkL s)) (fun i _ => n - (intOf i).toNat)
    case atStart => exact ⟨0, s0, rfl, by omega, ⟨Hw3.out, HO.out.1⟩⟩
    case round =>
      obtain ⟨k, s, rfl, hk, HS⟩ := hrel
      by_cases hlt : (k : Int) < n
      · have hkx : k < ss.length := by have := HV.out.2; omega
        obtain ⟨ad, hix, hab, hac⟩ := (HV.out.1.below HS.out.1.be (Nat.le_refl _)).at k hkx
        obtain ⟨y, hy⟩ : ∃ y, y = ss.getD k z11 := ⟨_, rfl⟩
        rw [← hy] at hac
        have HC : Hid (∀ j u, (spL y)[j]? = some u → wr.cell? (ad.add j) = some u) := hac
        clear hac hab hy hkx
        go_wp2_with (first
          | (refine step_ldat 39 _ rfl rfl ad (by rfl) (spL y) _ Try.underlying39 rfl (by kernel_rfl) HC.out ?_)
          | (go_at_call 18; refine (step_any y HS.out.1 HS.out.2).mono ?_; rintro e w5 ⟨rfl, h5⟩; have Hw5 : Hid (Wq w a p q (stepS s y) w5) := h5; clear h5)
          | (go_at_call 17; refine (same_any Hw5.out (HS.out.2.step y)).mono ?_; rintro e w6 ⟨rfl, h6⟩; have Hw6 : Hid (Wq w a p q (stepS s y) w6) := h6; clear h6))
        go_roundw
        case rel => exact ⟨k + 1, stepS s y, by go_num, by omega, ⟨Hw6.out, HS.out.2.step y⟩⟩
        case measure => simp [intOf]; omega
      · go_wp2_with fail
        rw [hQ.out]
        go_ret
        exact ⟨rfl, HS.out.1.be⟩
  · have HN : Hid (∀ u, Calls Try.prog 9 #[.agg (asL a).toArray, .int .i64 now, .int .i64 draw] u fun e w' => e = .returned (.tuple #[.pointer none, .int .i64 1]) ∧ Below u.heap.size u w') := fun u => new_bad a now draw u ha
    have HR : Hid (∀ u, Calls Try.prog 10 #[.agg (asL a).toArray, .int .i64 now, .int .i64 draw] u fun e w' => e = .returned (.tuple #[.pointer none, .int .i64 1]) ∧ Below u.heap.size u w') := fun u => rnew_bad a now draw u ha
    go_wp2_with (first
      | (refine step_ldat 25 _ rfl rfl ⟨w.heap.size, 0, none⟩ (by rfl) (asL a) _ Try.underlying25 rfl (by kernel_rfl) HC.out ?_)
      | (go_at_call 9; refine (HN.out _).mono ?_; rintro e w1 ⟨rfl, hb1⟩; have HC1 : Hid (∀ j u, (asL a)[j]? = some u → w1.cell? ((⟨w.heap.size, 0, none⟩ : Addr).add j) = some u) := (cells_of (l := asL a) (HW.out.1.kept (hb1.block _ HW.out.1.lt))); have H1 : Hid (Below W.heap.size W w1) := hb1; clear hb1)
      | (refine step_ldat 25 _ rfl rfl ⟨w.heap.size, 0, none⟩ (by rfl) (asL a) _ Try.underlying25 rfl (by kernel_rfl) HC1.out ?_)
      | (go_at_call 10; refine (HR.out _).mono ?_; rintro e w2 ⟨rfl, hb2⟩; have H2 : Hid (Below w1.heap.size w1 w2) := hb2; clear hb2))
    rw [hQ.out]
    go_ret
    exact ⟨rfl, HW.out.2.1.trans ((H1.out.trans (H2.out.mono H1.out.size)).mono (by have := HW.out.2.2; omega))⟩
end Go.Proofs.Ytocaiimhbmhakaa
