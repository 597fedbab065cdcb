/- cluster: Cluster. -/
import Derived.Test.YtdlipponajilbaaClG
namespace Go.Proofs.Ytdlipponajilbaa
open Go Go.RowKit Go.Sort
set_option linter.unusedVariables false
def slnV : Value → Nat
  | .slice _ n _ => n
  | _ => 0
theorem clN_len : ∀ (n : Nat) (l : List Cn), (clN n l).length ≤ l.length
  | 0, l => Nat.le_refl _
  | n + 1, l => by
    unfold clN
    split
    · exact Nat.le_refl _
    · cases h : goes l with
      | none => exact Nat.le_refl _
      | some i =>
        have := clN_len n (l.eraseIdx i)
        have h2 := List.length_eraseIdx_le l i
        simp only
        omega
theorem st_ok {l : List Cn} (h : ∀ c ∈ l, okC c) (n : Nat) : ∀ c ∈ (St.st ltc l).take n, okC c := fun c hc => h c ((St.st_perm ltc l).mem_iff.1 (List.mem_of_mem_take hc))
set_option maxRecDepth 20000 in
set_option maxHeartbeats 1000000 in
theorem cluster_any (v : Value) (l : List Cn) (w : World) (N : Nat) (h : Rk N w 7 v (l.map cnL)) (hN : N ≤ w.heap.size) (hl : l.length ≤ 1000) (ok : ∀ c ∈ l, okC c) : Calls Try.prog 6 #[v] w fun e w' => ∃ u, e = .returned u ∧ Hid (OR w' w.heap.size 27 7 u ((clu l).map cnL)) ∧ Hid (Below w.heap.size w w') := by
  have HB0 : Hid (Calls Try.prog 18 #[v, .int .i64 10] w fun e w' => ∃ u, e = .returned u ∧ Hid (OR w' w.heap.size 27 7 u (((St.st ltc l).take 10).map cnL)) ∧ Hid (Below w.heap.size w w')) := bestByMerit_any v l 10 w N h hN hl (by omega) ok
  obtain ⟨X, hX⟩ : ∃ X, (St.st ltc l).take 10 = X := ⟨_, rfl⟩
  have HX : Hid (clu l = clN 10 X ∧ X.length ≤ 10 ∧ ∀ c ∈ X, okC c) := ⟨by unfold clu; rw [hX], by rw [← hX, List.length_take]; omega, by rw [← hX]; exact st_ok ok 10⟩
  rw [hX] at HB0
  clear h hN hl ok hX
  go_enter Try.func6, Try.ntmps6
  refine post_hid fun Q hQ => ?_
  go_wp2_with (go_at_call 18; refine HB0.out.mono ?_; rintro e w1 ⟨u1, rfl, H1, H2⟩)
  obtain ⟨ao1, cap1, hu1⟩ := or_len H1.out
  obtain ⟨n1, hn1⟩ : ∃ n1, (X.map cnL).length = n1 := ⟨_, rfl⟩
  rw [hn1] at hu1
  have HI : Hid (n1 = X.length ∧ n1 ≤ 10) := by rw [List.length_map] at hn1; have := HX.out.2.1; exact ⟨by omega, by omega⟩
  subst hu1
  have hn10 : (n1 : Int) ≤ 10 := by have := HI.out; omega
  clear hn1 HB0
  go_loopw [3, 4, 5] (fun v3 _ _ wr => ∃ (ao : Option Addr) (n cap : Nat), v3 = .slice ao n cap ∧ (n : Int) ≤ 10 ∧ Hid (∃ (k : Nat) (Y : List Cn), n = Y.length ∧ Y.length ≤ k ∧ (∀ c ∈ Y, okC c) ∧ clN k Y = clu l ∧ OR wr w.heap.size 27 7 (.slice ao n cap) (Y.map cnL) ∧ Below w.heap.size w wr)) (fun v3 _ _ _ => slnV v3)
  case atStart => exact ⟨ao1, n1, cap1, rfl, hn10, ⟨10, X, HI.out.1, HX.out.2.1, HX.out.2.2, HX.out.1.symm, H1.out, H2.out⟩⟩
  case round =>
    obtain ⟨ao, n, cap, rfl, hn, HB⟩ := hrel
    clear hn10
    obtain ⟨k, Y, hY⟩ := HB.out
    have HY : Hid (n = Y.length ∧ Y.length ≤ k ∧ (∀ c ∈ Y, okC c) ∧ clN k Y = clu l ∧ OR wr w.heap.size 27 7 (.slice ao n cap) (Y.map cnL) ∧ Below w.heap.size w wr) := hY
    clear hY HB
    by_cases h3 : (3 : Int) < n
    · have HAd : Hid (∃ g, ao = some ⟨g, 0, none⟩ ∧ w.heap.size ≤ g) := by
        obtain ⟨g, cp, e1, e2, e3, e4⟩ := HY.out.2.2.2.2.1.form (by rw [List.length_map, ← HY.out.1]; omega)
        injection e1 with e1 _ _
        exact ⟨g, e1, e3⟩
      obtain ⟨g, hg⟩ := HAd.out
      obtain ⟨hg1, hg2⟩ := hg
      subst hg1
      have Hg : Hid (w.heap.size ≤ g) := hg2
      clear hg2 HAd
      obtain ⟨P, hP⟩ : ∃ P, (wst Y n).1 = P := ⟨_, rfl⟩
      obtain ⟨J, hJ⟩ : ∃ J, (wst Y n).2 = J := ⟨_, rfl⟩
      obtain ⟨q, hq⟩ : ∃ q, qut Y n = q := ⟨_, rfl⟩
      have HW : Hid (goes Y = if P < 0 ∨ J < q then none else some P.toNat) := by
        show _ = _
        unfold goes
        rw [← HY.out.1, hP, hJ, hq]
      have hPb : -1 ≤ P ∧ P < n := by have := wst_bd Y n; rw [← hP]; omega
      obtain ⟨hP1, hP2⟩ := hPb
      have CW : Hid (Calls Try.prog 19 #[.slice (some ⟨g, 0, none⟩) n cap] wr fun e w' => e = .returned (.tuple #[.int .i64 P, .int .i64 J]) ∧ Below wr.heap.size wr w') := by
        have := worst_any _ Y wr wr.heap.size HY.out.2.2.2.2.1.rk (Nat.le_refl _) (by have := HY.out.1; omega) HY.out.2.2.1
        rw [← HY.out.1, hP, hJ] at this
        exact this
      have CQ : Hid (∀ w1, Below wr.heap.size wr w1 → Calls Try.prog 20 #[.slice (some ⟨g, 0, none⟩) n cap] w1 fun e w' => e = .returned (.int .i64 q) ∧ Below w1.heap.size w1 w') := fun w1 hb1 => by
        have := quiet_any _ Y w1 w1.heap.size (HY.out.2.2.2.2.1.below hb1 (Nat.le_refl _)).rk (Nat.le_refl _) (by have := HY.out.1; omega) (by have := HY.out.1; omega)
        rw [← HY.out.1, hq] at this
        exact this
      clear hP hJ hq
      by_cases hneg : P < 0
      · have HE : Hid (clu l = Y) := by
          show _ = _
          rw [← HY.out.2.2.2.1, clN_stay]
          rw [HW.out, if_pos (.inl hneg)]
        go_wp2_with (go_at_call 19; refine CW.out.mono ?_; rintro e w2 ⟨rfl, hb2⟩)
        rw [hQ.out]
        go_ret
        refine ⟨_, rfl, ?_, below_thru HY.out.2.2.2.2.2 hb2⟩
        rw [HE.out]
        exact HY.out.2.2.2.2.1.below hb2 (Nat.le_refl _)
      · obtain ⟨p, hp⟩ : ∃ p : Nat, P = (p : Int) := ⟨P.toNat, by omega⟩
        subst hp
        by_cases hjq : J < q
        · have HE : Hid (clu l = Y) := by
            show _ = _
            rw [← HY.out.2.2.2.1, clN_stay]
            rw [HW.out, if_pos (.inr hjq)]
          go_wp2_with (first
            | (go_at_call 19; refine CW.out.mono ?_; rintro e w2 ⟨rfl, hb2⟩)
            | (go_at_call 20; refine (CQ.out _ hb2).mono ?_; rintro e w3 ⟨rfl, hb3⟩))
          rw [hQ.out]
          go_ret
          refine ⟨_, rfl, ?_, below_thru (below_thru HY.out.2.2.2.2.2 hb2) hb3⟩
          rw [HE.out]
          exact (HY.out.2.2.2.2.1.below hb2 (Nat.le_refl _)).below hb3 (Nat.le_refl _)
        · have HGo : Hid (∃ k', k = k' + 1 ∧ clN k' (Y.eraseIdx p) = clu l ∧ (Y.eraseIdx p).length = n - 1) := by
            have h1 := HY.out.1
            have h2 := HY.out.2.1
            refine ⟨k - 1, by omega, ?_, by rw [List.length_eraseIdx_of_lt (by omega)]; omega⟩
            rw [← HY.out.2.2.2.1, show k = (k - 1) + 1 from by omega, clN_go (by omega) (by rw [HW.out, if_neg (by omega)])]
            rfl
          have CD : Hid (∀ w1, Below wr.heap.size wr w1 → Calls Try.prog 21 #[.slice (some ⟨g, 0, none⟩) n cap, .int .i64 (p : Int), .int .i64 ((p : Int) + 1)] w1 fun e w' => e = .returned (.slice (some ⟨g, 0, none⟩) (n - 1) cap) ∧ Hid (OR w' w.heap.size 27 7 (.slice (some ⟨g, 0, none⟩) (n - 1) cap) ((Y.eraseIdx p).map cnL) ∧ w1.grownBy w' (some g))) := fun w1 hb1 => delete_any w.heap.size g n cap p Y w1 (HY.out.2.2.2.2.1.below hb1 (Nat.le_refl _)) HY.out.1 (by omega) (by omega)
          have hjq' : ¬ J < q := hjq
          go_wp2_with (first
            | (go_at_call 19; refine CW.out.mono ?_; rintro e w2 ⟨rfl, hb2⟩)
            | (go_at_call 20; refine (CQ.out _ hb2).mono ?_; rintro e w3 ⟨rfl, hb3⟩)
            | (go_at_call 21; refine (CD.out _ (below_thru hb2 hb3)).mono ?_; rintro e w4 ⟨rfl, h4⟩))
          go_roundw
          case rel =>
            obtain ⟨k', e1, e2, e3⟩ := HGo.out
            refine ⟨_, n - 1, cap, rfl, by omega, ⟨k', _, e3.symm, by have := HY.out.2.1; have := HY.out.1; omega, fun c hc => HY.out.2.2.1 c (List.mem_of_mem_eraseIdx hc), e2, h4.out.1, ?_⟩⟩
            have hb := below_thru (below_thru HY.out.2.2.2.2.2 hb2) hb3
            have hg := h4.out.2
            exact hb.trans ⟨hg.os, hg.tape, hg.output, hg.size, fun j hj => hg.block j (by have := hb.size; omega) (fun e => by injection e with e; have := Hg.out; omega)⟩
          case measure => simp [slnV]; omega
    · have HE : Hid (clu l = Y) := by
        show _ = _
        rw [← HY.out.2.2.2.1, clN_small (by have := HY.out.1; omega)]
      go_wp2_with fail
      rw [hQ.out]
      go_ret
      refine ⟨_, rfl, ?_, HY.out.2.2.2.2.2⟩
      rw [HE.out]
      exact HY.out.2.2.2.2.1
end Go.Proofs.Ytdlipponajilbaa
