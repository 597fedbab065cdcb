/- PollGone, walked. -/
import Derived.Test.YtocaiimhbmhakaaJI
namespace Go.Proofs.Ytocaiimhbmhakaa
open Go Go.RowKit Go.Sort
/-- nobody is asked by bursts -/
structure Nb (a : As) (s : Pl) : Prop where
  ok : OkL s
  nb : s.burst = false
  ni : s.ib = false
  l0 : s.left = 0
  lo : s.least = a.minp
  hi : s.most = a.maxp
theorem Nb.st {a : As} {s : Pl} (h : Nb a s) : stL s = 0 := by
  unfold stL
  rw [h.nb, h.ni]
  rw [if_neg]
  rintro ⟨h1, -⟩
  split at h1 <;> cases h1
theorem Nb.eq {a : As} {s : Pl} (h : Nb a s) (now sys : Int) : sentS s now sys = waitS ⟨s.least, s.most, s.burst, s.ib, stE s sys, stR s, stG s, stL s, s.next⟩ now := by
  unfold sentS; rw [if_pos h.l0]
theorem Nb.sent {a : As} {s : Pl} (h : Nb a s) (now sys : Int) : Nb a (sentS s now sys) := by
  refine ⟨h.ok.sent _ _, ?_, ?_, ?_, ?_, ?_⟩ <;> rw [h.eq]
  · exact h.nb
  · exact h.ni
  · exact h.st
  · exact h.lo
  · exact h.hi
theorem Nb.heard {a : As} {s : Pl} (h : Nb a s) : Nb a (heardS s) := ⟨h.ok.heard, h.nb, h.ni, h.l0, h.lo, h.hi⟩
theorem Nb.r {a : As} {s : Pl} (h : Nb a s) (now sys : Int) : (sentS s now sys).reach = s.reach * 2 % 256 := by rw [h.eq]; rfl
theorem Nb.g {a : As} {s : Pl} (h : Nb a s) (now sys : Int) : (sentS s now sys).gone = if s.reach * 2 % 256 = 0 then min (s.gone + 1) 100 else s.gone := by rw [h.eq]; rfl
theorem Nb.e {a : As} {s : Pl} (h : Nb a s) (now sys : Int) : (sentS s now sys).exp = stE s sys := by rw [h.eq]; rfl
theorem dbl (j : Nat) (hj : j < 8) (r : Int) (h : r % (2 ^ j : Int) = 0) : (r * 2 % 256) % (2 ^ (j + 1) : Int) = 0 := by
  have e : j = 0 ∨ j = 1 ∨ j = 2 ∨ j = 3 ∨ j = 4 ∨ j = 5 ∨ j = 6 ∨ j = 7 := by omega
  rcases e with rfl | rfl | rfl | rfl | rfl | rfl | rfl | rfl <;> simp at h ⊢ <;> omega
set_option maxHeartbeats 2000000 in
theorem PollGone_row (a0 : As) (hd more : Int) (w : World) :
    Calls Try.prog 8 #[.agg (asL a0).toArray, .int .i64 hd, .int .i64 more] w fun e w' => e = .returned (.bool true) ∧ Below w.heap.size w w' := by
  go_enter Try.func8, Try.ntmps8
  refine post_hid fun Q hQ => ?_
  refine seq_hid fun R hR => ?_
  go_wp2_with fail
  refine world_hid fun W0 hW => ?_
  have HW0 : Hid (Bk w.heap.size W0 (asL a0).toArray 25 ∧ Below w.heap.size w W0 ∧ W0.heap.size = w.heap.size + 1) := by
    rw [hW.out]
    exact ⟨Bk.new _ _ _, (Below.refl _ _).alloc (Nat.le_refl _) _, by simp⟩
  clear hW
  rw [hR.out]
  clear hR
  obtain ⟨a, hA⟩ : ∃ a : As, a = { a0 with burst := false, ib := false } := ⟨_, rfl⟩
  have b5 : W0.cell? ⟨w.heap.size, 5, none⟩ = some (.bool a0.burst) := HW0.out.1.cell 5
  have b6 : W0.cell? ⟨w.heap.size, 6, none⟩ = some (.bool a0.ib) := HW0.out.1.cell 6
  have g5 : W0.frozen? ⟨w.heap.size, 5, none⟩ = false := HW0.out.1.frozen 5
  have g6 : W0.frozen? ⟨w.heap.size, 6, none⟩ = false := HW0.out.1.frozen 6
  refine seq_hid fun R hR => ?_
  go_wp2_with fail
  rw [hR.out]
  clear hR
  refine seq_hid fun R hR => ?_
  go_wp2_with fail
  refine world_hid fun W hW => ?_
  have HW : Hid (Bk w.heap.size W (asL a).toArray 25 ∧ Below w.heap.size w W ∧ W.heap.size = w.heap.size + 1) := by
    rw [hW.out, hA]
    exact ⟨(HW0.out.1.set (j := 5) (.bool false)).set (j := 6) (.bool false), (HW0.out.2.1.setCell (Nat.le_refl _) _).setCell (Nat.le_refl _) _, by simpa using HW0.out.2.2⟩
  have HAA : Hid (a.burst = false ∧ a.ib = false) := by rw [hA]; exact ⟨rfl, rfl⟩
  clear hW b5 b6 g5 g6 hA HW0
  rw [hR.out]
  clear hR
  have HC : Hid (∀ j u, (asL a)[j]? = some u → W.cell? ((⟨w.heap.size, 0, none⟩ : Addr).add j) = some u) := cells_of (l := asL a) HW.out.1
  by_cases ha : okA a
  · have HN : Hid (Calls Try.prog 9 #[.agg (asL a).toArray, .int .i64 0, .int .i64 0] W _) := new_ok a 0 0 W ha
    refine seq_hid fun R hR => ?_
    go_wp2_with (first
      | (refine step_ldat 25 _ rfl rfl ⟨w.heap.size, 0, none⟩ (by rfl) (asL a) _ Try.underlying25 rfl (by kernel_rfl) HC.out ?_)
      | (go_at_call 9; refine HN.out.mono ?_; rintro e w1 ⟨p, rfl, hp1, hp2, hb1⟩; have H1 : Hid (Po w1 p (newS a 0 0) ∧ W.heap.size ≤ p ∧ Below W.heap.size W w1 ∧ Bk w.heap.size w1 (asL a).toArray 25) := ⟨hp1, hp2, hb1, HW.out.1.kept (hb1.block _ HW.out.1.lt)⟩; clear hp1 hp2 hb1))
    rw [hR.out]
    clear hR HN HC
    have HC : Hid (∀ j u, (asL a)[j]? = some u → w1.cell? ((⟨w.heap.size, 0, none⟩ : Addr).add j) = some u) := cells_of (l := asL a) H1.out.2.2.2
    have HN : Hid (Calls Try.prog 10 #[.agg (asL a).toArray, .int .i64 0, .int .i64 0] w1 _) := rnew_ok a 0 0 w1 ha
    refine seq_hid fun R hR => ?_
    go_wp2_with (first
      | (refine step_ldat 25 _ rfl rfl ⟨w.heap.size, 0, none⟩ (by rfl) (asL a) _ Try.underlying25 rfl (by kernel_rfl) HC.out ?_)
      | (go_at_call 10; refine HN.out.mono ?_; rintro e w2 ⟨q, rfl, hq1, hq2, hb2⟩; have H2 : Hid (Rp w2 q a (newS a 0 0) ∧ w1.heap.size ≤ q ∧ Below w1.heap.size w1 w2) := ⟨hq1, hq2, hb2⟩; clear hq1 hq2 hb2))
    rw [hR.out]
    clear hR HN HC
    obtain ⟨s0, hs0⟩ : ∃ s0, newS a 0 0 = s0 := ⟨_, rfl⟩
    have HD : Hid (Wd w a p s0 w2 ∧ Rp w2 q a s0 ∧ p ≠ q ∧ w.heap.size < q) := by
      rw [← hs0]
      have l1 := Bk.lt H1.out.1
      have l2 := HW.out.2.2
      have l3 := H1.out.2.1
      have l4 := H2.out.2.1
      exact ⟨⟨H1.out.1.below H2.out.2.2 l1, H1.out.2.2.2.kept (H2.out.2.2.block _ H1.out.2.2.2.lt), HW.out.2.1.trans ((H1.out.2.2.1.trans (H2.out.2.2.mono H1.out.2.2.1.size)).mono (by omega)), by omega⟩, H2.out.1, by omega, by omega⟩
    have HO : Hid (OkL s0 ∧ newS a 0 0 = s0 ∧ okA a) := ⟨by rw [← hs0]; exact OkL.new ha _ _, hs0, ha⟩
    clear H1 H2 HW hs0 ha
    have Hw2 : Hid (Wd w a p s0 w2) := HD.out.1
    clear HD
    have HN0 : Hid (Nb a s0) := ⟨HO.out.1, by rw [← HO.out.2.1]; exact HAA.out.1, by rw [← HO.out.2.1]; exact HAA.out.2, by rw [← HO.out.2.1]; rfl, by rw [← HO.out.2.1]; rfl, by rw [← HO.out.2.1]; rfl⟩
    refine seq_hid fun R hR => ?_
    go_wp2_with fail
    rw [hR.out]
    clear hR
    obtain ⟨H, hH⟩ : ∃ H, max hd 0 = H := ⟨_, rfl⟩
    obtain ⟨M, hM⟩ : ∃ M : Nat, min H 40 = (M : Int) := ⟨(min H 40).toNat, by omega⟩
    have m1 : ∀ u, (Builtin.max_ #[3, 3] 3 #[.int .i64 hd, .int .i64 0]).run Try.prog u = .ok (.int .i64 H) u := fun u => by rw [run_mx, hH]
    have m2 : ∀ u, (Builtin.min_ #[3, 3] 3 #[.int .i64 H, .int .i64 40]).run Try.prog u = .ok (.int .i64 (M : Int)) u := fun u => by rw [run_mn, hM]
    have hM4 : (M : Int) ≤ 40 := by omega
    clear hH hM
    refine seq_hid fun R hR => ?_
    go_wp2_with fail
    go_loopw [11] (fun i wr => ∃ (k : Nat) (s : Pl), i = .int .i64 k ∧ (k : Int) ≤ M ∧ Hid (Wd w a p s wr ∧ Nb a s)) (fun i _ => M - (intOf i).toNat)
    case atStart => exact ⟨0, s0, rfl, by omega, ⟨Hw2.out, HN0.out⟩⟩
    case round =>
      obtain ⟨k, s, rfl, hk, HS⟩ := hrel
      by_cases hlt : (k : Int) < M
      · have c3 : wr.cell? ⟨w.heap.size, 3, none⟩ = some (.int .i64 a.minp) := HS.out.1.ak.cell 3
        obtain ⟨N, hN⟩ : ∃ N, s.next = N := ⟨_, rfl⟩
        obtain ⟨s2, hs2⟩ : ∃ s2, sentS s N a.minp = s2 := ⟨_, rfl⟩
        have HNx : Hid (∀ u, Wd w a p s u → Calls Try.prog 13 #[.pointer (some ⟨p, 0, none⟩)] u fun e w' => e = .returned (.int .i64 N) ∧ w' = u) := fun u h => wd_next h N hN
        have HSe : Hid (∀ u, Wd w a p s u → Calls Try.prog 12 #[.pointer (some ⟨p, 0, none⟩), .int .i64 N, .int .i64 a.minp] u fun e w' => e = .returned (.tuple #[]) ∧ Wd w a p s2 w') := fun u h => wd_sent h HS.out.2.ok _ _ s2 hs2
        have H2 : Hid (sentS s N a.minp = s2) := hs2
        clear hs2 hN
        go_wp2_with fail
        go_region_held3 (fun w' => w'.cell? ⟨w.heap.size, 3, none⟩ = some (.int .i64 a.minp)) (first | with_reducible exact c3 | with_reducible exact z3 | go_keep) (first | (go_at_call 13; refine (HNx.out _ HS.out.1.drew).mono ?_; rintro e w5 ⟨rfl, rfl⟩) | (go_at_call 12; refine (HSe.out _ HS.out.1.drew).mono ?_; rintro e w6 ⟨rfl, h6⟩; have z3 : w6.cell? ⟨w.heap.size, 3, none⟩ = some (.int .i64 a.minp) := h6.ak.cell 3; have Hw6 : Hid (Wd w a p s2 w6) := h6; clear h6))
        obtain ⟨N2, hN2⟩ : ∃ N, s2.next = N := ⟨_, rfl⟩
        have HN2 : Hid (s2.next = N2 ∧ Nb a s2) := ⟨hN2, by rw [← H2.out]; exact HS.out.2.sent _ _⟩
        clear hN2
        go_wp2_with (first
          | (go_at_call 13; refine (wd_next Hw6.out N2 HN2.out.1).mono ?_; rintro e wq ⟨rfl, hwq⟩; rw [hwq]; clear hwq)
          | (go_at_call 16; refine (wd_heard Hw6.out HN2.out.2.ok _).mono ?_; rintro e w7 ⟨rfl, h7⟩; have Hw7 : Hid (Wd w a p (heardS s2) w7) := h7; clear h7))
        go_roundw
        case rel => exact ⟨k + 1, heardS s2, by go_num, by omega, ⟨Hw7.out, HN2.out.2.heard⟩⟩
        case measure => simp [intOf]; omega
      · have H1 : Hid (Wd w a p s wr ∧ Nb a s) := HS.out
        clear HS Hw2 HN0
        obtain ⟨wa, hwa⟩ : ∃ wa, wa = wr := ⟨_, rfl⟩
        subst hwa
        go_wp2_with fail
        rw [hR.out]
        clear hR m1 m2
        refine seq_hid fun R hR => ?_
        go_wp2_with fail
        go_loopw [12] (fun i wr => ∃ (j : Nat) (s : Pl), i = .int .i64 j ∧ (j : Int) ≤ 8 ∧ Hid (Wd w a p s wr ∧ Nb a s ∧ s.reach % (2 ^ j : Int) = 0 ∧ (j = 8 → 1 ≤ s.gone))) (fun i _ => 8 - (intOf i).toNat)
        case atStart => exact ⟨0, s, rfl, by omega, ⟨H1.out.1, H1.out.2, by simp, fun h => by omega⟩⟩
        case round =>
          clear H1 hlt hk
          obtain ⟨j, s, rfl, hj, HS⟩ := hrel
          by_cases hlt : (j : Int) < 8
          · have c3 : wr.cell? ⟨w.heap.size, 3, none⟩ = some (.int .i64 a.minp) := HS.out.1.ak.cell 3
            obtain ⟨N, hN⟩ : ∃ N, s.next = N := ⟨_, rfl⟩
            obtain ⟨s2, hs2⟩ : ∃ s2, sentS s N a.minp = s2 := ⟨_, rfl⟩
            have HNx : Hid (∀ u, Wd w a p s u → Calls Try.prog 13 #[.pointer (some ⟨p, 0, none⟩)] u fun e w' => e = .returned (.int .i64 N) ∧ w' = u) := fun u h => wd_next h N hN
            have HSe : Hid (∀ u, Wd w a p s u → Calls Try.prog 12 #[.pointer (some ⟨p, 0, none⟩), .int .i64 N, .int .i64 a.minp] u fun e w' => e = .returned (.tuple #[]) ∧ Wd w a p s2 w') := fun u h => wd_sent h HS.out.2.1.ok _ _ s2 hs2
            have H2 : Hid (sentS s N a.minp = s2) := hs2
            clear hs2 hN
            go_wp2_with fail
            go_region_held3 (fun w' => w'.cell? ⟨w.heap.size, 3, none⟩ = some (.int .i64 a.minp)) (first | with_reducible exact c3 | with_reducible exact z3 | go_keep) (first | (go_at_call 13; refine (HNx.out _ HS.out.1.drew).mono ?_; rintro e w5 ⟨rfl, rfl⟩) | (go_at_call 12; refine (HSe.out _ HS.out.1.drew).mono ?_; rintro e w6 ⟨rfl, h6⟩; have z3 : w6.cell? ⟨w.heap.size, 3, none⟩ = some (.int .i64 a.minp) := h6.ak.cell 3; have Hw6 : Hid (Wd w a p s2 w6) := h6; clear h6))
            go_wp2_with fail
            go_roundw
            case rel =>
              refine ⟨j + 1, s2, by go_num, by omega, ⟨Hw6.out, ?_, ?_, fun h8 => ?_⟩⟩
              · rw [← H2.out]; exact HS.out.2.1.sent _ _
              · rw [← H2.out, HS.out.2.1.r]; exact dbl j (by omega) _ HS.out.2.2.1
              · rw [← H2.out, HS.out.2.1.g]
                have h7 : j = 7 := by omega
                subst h7
                have hr := HS.out.2.2.1
                have hg := HS.out.2.1.ok.g0
                have : s.reach * 2 % 256 = 0 := by simp at hr; omega
                rw [if_pos this]
                omega
            case measure => simp [intOf]; omega
          · have H1 : Hid (Wd w a p s wr ∧ Nb a s ∧ s.reach = 0 ∧ 1 ≤ s.gone) := by
              have h8 : j = 8 := by omega
              subst h8
              have h1 := HS.out.2.2.1
              have h2 := HS.out.2.1.ok.r0
              have h3 := HS.out.2.1.ok.r1
              exact ⟨HS.out.1, HS.out.2.1, by simp at h1; omega, HS.out.2.2.2 rfl⟩
            clear HS
            obtain ⟨wb, hwb⟩ : ∃ wb, wb = wr := ⟨_, rfl⟩
            subst hwb
            go_wp2_with fail
            rw [hR.out]
            clear hR
            refine seq_hid fun R hR => ?_
            obtain ⟨G, hG⟩ : ∃ G, s.gone = G := ⟨_, rfl⟩
            have hG1 : ¬ G < 1 := by have := H1.out.2.2.2; omega
            have HG : Hid (s.gone = G) := hG
            clear hG
            go_wp2_with (first
              | (go_at_call 19; refine (wd_reach H1.out.1 H1.out.2.1.ok 0 H1.out.2.2.1).mono ?_; rintro e wq ⟨rfl, hwq⟩; rw [hwq]; clear hwq)
              | (go_at_call 20; refine (wd_gone H1.out.1 G HG.out).mono ?_; rintro e wq ⟨rfl, hwq⟩; rw [hwq]; clear hwq))
            rw [hR.out]
            clear hR
            refine seq_hid fun R hR => ?_
            go_wp2_with fail
            go_loopw [13] (fun i wr => ∃ (l : Nat) (s : Pl), i = .int .i64 l ∧ (l : Int) ≤ 30 ∧ Hid (Wd w a p s wr ∧ Nb a s ∧ s.reach = 0 ∧ 1 + (l : Int) ≤ s.gone ∧ (l = 30 → s.exp = s.most))) (fun i _ => 30 - (intOf i).toNat)
            case atStart => exact ⟨0, s, rfl, by omega, ⟨H1.out.1, H1.out.2.1, H1.out.2.2.1, by have := H1.out.2.2.2; omega, fun h => by omega⟩⟩
            case round =>
              clear H1 hlt hj hG1 HG
              obtain ⟨l, s, rfl, hl, HS⟩ := hrel
              by_cases hlt : (l : Int) < 30
              · have c3 : wr.cell? ⟨w.heap.size, 3, none⟩ = some (.int .i64 a.minp) := HS.out.1.ak.cell 3
                obtain ⟨N, hN⟩ : ∃ N, s.next = N := ⟨_, rfl⟩
                obtain ⟨s2, hs2⟩ : ∃ s2, sentS s N a.minp = s2 := ⟨_, rfl⟩
                have HNx : Hid (∀ u, Wd w a p s u → Calls Try.prog 13 #[.pointer (some ⟨p, 0, none⟩)] u fun e w' => e = .returned (.int .i64 N) ∧ w' = u) := fun u h => wd_next h N hN
                have HSe : Hid (∀ u, Wd w a p s u → Calls Try.prog 12 #[.pointer (some ⟨p, 0, none⟩), .int .i64 N, .int .i64 a.minp] u fun e w' => e = .returned (.tuple #[]) ∧ Wd w a p s2 w') := fun u h => wd_sent h HS.out.2.1.ok _ _ s2 hs2
                have H2 : Hid (sentS s N a.minp = s2) := hs2
                clear hs2 hN
                go_wp2_with fail
                go_region_held3 (fun w' => w'.cell? ⟨w.heap.size, 3, none⟩ = some (.int .i64 a.minp)) (first | with_reducible exact c3 | with_reducible exact z3 | go_keep) (first | (go_at_call 13; refine (HNx.out _ HS.out.1.drew).mono ?_; rintro e w5 ⟨rfl, rfl⟩) | (go_at_call 12; refine (HSe.out _ HS.out.1.drew).mono ?_; rintro e w6 ⟨rfl, h6⟩; have z3 : w6.cell? ⟨w.heap.size, 3, none⟩ = some (.int .i64 a.minp) := h6.ak.cell 3; have Hw6 : Hid (Wd w a p s2 w6) := h6; clear h6))
                go_wp2_with fail
                go_roundw
                case rel =>
                  have hr : s.reach * 2 % 256 = 0 := by rw [HS.out.2.2.1]; decide
                  have hg := HS.out.2.2.2.1
                  refine ⟨l + 1, s2, by go_num, by omega, ⟨Hw6.out, ?_, ?_, ?_, fun h8 => ?_⟩⟩
                  · rw [← H2.out]; exact HS.out.2.1.sent _ _
                  · rw [← H2.out, HS.out.2.1.r]; exact hr
                  · rw [← H2.out, HS.out.2.1.g, if_pos hr]; omega
                  · rw [← H2.out, HS.out.2.1.e, (HS.out.2.1.sent N a.minp).hi]
                    unfold stE stG stR
                    rw [if_pos hr, HS.out.2.1.lo, HS.out.2.1.hi]
                    have h1 := HS.out.2.1.ok.lo
                    have h2 := HS.out.2.1.ok.hi
                    rw [HS.out.2.1.lo] at h1
                    rw [HS.out.2.1.hi] at h2
                    omega
                case measure => simp [intOf]; omega
              · have H1 : Hid (Wd w a p s wr ∧ s.exp = a.maxp ∧ 12 < s.gone) := by
                  have h8 : l = 30 := by omega
                  subst h8
                  exact ⟨HS.out.1, by rw [HS.out.2.2.2.2 rfl, HS.out.2.1.hi], by have := HS.out.2.2.2.1; omega⟩
                clear HS
                obtain ⟨wc, hwc⟩ : ∃ wc, wc = wr := ⟨_, rfl⟩
                subst hwc
                obtain ⟨G, hG⟩ : ∃ G, s.gone = G := ⟨_, rfl⟩
                have hG1 : 12 < G := by have := H1.out.2.2; omega
                have HG : Hid (s.gone = G) := hG
                have c4 : wc.cell? ⟨w.heap.size, 4, none⟩ = some (.int .i64 a.maxp) := H1.out.1.ak.cell 4
                clear hG
                go_wp2_with fail
                rw [hR.out]
                clear hR
                go_wp2_with fail
                go_quiet (first
                  | (go_at_call 15; exact Calls.quiet_of_same (wd_exp (H1.out.1.drewN _) a.maxp H1.out.2.1))
                  | (go_at_call 20; exact Calls.quiet_of_same (wd_gone (H1.out.1.drewN _) G HG.out)))
                go_wp2
                rw [hQ.out]
                go_ret
                exact ⟨rfl, (H1.out.1.drewN _).be⟩
  · have HN : Hid (∀ u, Calls Try.prog 9 #[.agg (asL a).toArray, .int .i64 0, .int .i64 0] u fun e w' => e = .returned (.tuple #[.pointer none, .int .i64 1]) ∧ Below u.heap.size u w') := fun u => new_bad a 0 0 u ha
    have HR : Hid (∀ u, Calls Try.prog 10 #[.agg (asL a).toArray, .int .i64 0, .int .i64 0] u fun e w' => e = .returned (.tuple #[.pointer none, .int .i64 1]) ∧ Below u.heap.size u w') := fun u => rnew_bad a 0 0 u ha
    go_wp2_with (first
      | (refine step_ldat 25 _ rfl rfl ⟨w.heap.size, 0, none⟩ (by rfl) (asL a) _ Try.underlying25 rfl (by kernel_rfl) HC.out ?_)
      | (go_at_call 9; refine (HN.out _).mono ?_; rintro e w1 ⟨rfl, hb1⟩; have HC1 : Hid (∀ j u, (asL a)[j]? = some u → w1.cell? ((⟨w.heap.size, 0, none⟩ : Addr).add j) = some u) := (cells_of (l := asL a) (HW.out.1.kept (hb1.block _ HW.out.1.lt))); have H1 : Hid (Below W.heap.size W w1) := hb1; clear hb1)
      | (refine step_ldat 25 _ rfl rfl ⟨w.heap.size, 0, none⟩ (by rfl) (asL a) _ Try.underlying25 rfl (by kernel_rfl) HC1.out ?_)
      | (go_at_call 10; refine (HR.out _).mono ?_; rintro e w2 ⟨rfl, hb2⟩; have H2 : Hid (Below w1.heap.size w1 w2) := hb2; clear hb2))
    rw [hQ.out]
    go_ret
    exact ⟨rfl, HW.out.2.1.trans ((H1.out.trans (H2.out.mono H1.out.size)).mono (by have := HW.out.2.2; omega))⟩
end Go.Proofs.Ytocaiimhbmhakaa
