/- assoc: the reference's Hops. -/
import Derived.Test.YtnjdmkgkpdebdaaOY
import Derived.Test.YtnjdmkgkpdebdaaGQ
namespace Go.Proofs.Ytnjdmkgkpdebdaa
open Go Go.RowKit Go.Sort
set_option linter.unusedVariables false
def rhR (l : List Mb) (id : Int) : Int := match idM id l with
  | some m => if m.ac.kind = 5 then hoN m else 0
  | none => 0
def rhB (l : List Mb) (id : Int) : Bool := match idM id l with
  | some m => decide (m.ac.kind = 5)
  | none => false
theorem run_mx2 (a b M : Int) (h : (if a < b then b else a) = M) (u : World) : (Builtin.max_ #[3, 3] 3 #[.int .i64 a, .int .i64 b]).run Try.prog u = .ok (.int .i64 M) u := by rw [← h]; simp [go_sem]
set_option maxRecDepth 20000 in
set_option maxHeartbeats 4000000 in
theorem rhops_any (d B : Nat) (l : List Mb) (id : Int) (w : World) (h : Rt w d B l) (hh : ∀ m, idM id l = some m → 0 ≤ m.hops ∧ m.hops < 9223372036854775807) : Calls Try.prog 31 #[.pointer (some ⟨d, 0, none⟩), .int .i64 id] w fun e w' => e = .returned (.tuple #[.int .i64 (rhR l id), .bool (rhB l id)]) ∧ Hid ((rhB l id = false ∧ Rt w' d B l ∧ Below w.heap.size w w') ∨ ∃ (i : Nat) (m : Mb) (g : Nat) (cs : Array Value), l[i]? = some m ∧ m.id = id ∧ idM id l = some m ∧ m.ac.kind = 5 ∧ Rt w' d B (l.set i { m with hops := hoN m }) ∧ B ≤ g ∧ Bk g w cs 83 ∧ w.grownBy w' (some g)) := by
  have HH : Hid (Rt w d B l) := h
  have CA : Hid (Calls Try.prog 50 #[.pointer (some ⟨d, 0, none⟩), .int .i64 id] w fun e w' => e = .returned (.int .i64 (idF id l 0)) ∧ Below w.heap.size w w') := rat_any d B l id w h
  rcases idF_at id l 0 with ⟨h1, h2⟩ | ⟨i, m, h1, h2, h3, h4⟩
  · have HE : Hid (rhR l id = 0 ∧ rhB l id = false) := by show _ ∧ _; unfold rhR rhB; rw [h2]; exact ⟨rfl, rfl⟩
    rw [h1] at CA
    clear h1 h2 h hh
    go_enter Try.func31, Try.ntmps31
    refine post_hid fun Q hQ => ?_
    go_wp2_with (go_at_call 50; refine CA.out.mono ?_; rintro e w1 ⟨rfl, hb1⟩; have HB1 : Hid (Below w.heap.size w w1) := hb1; clear hb1)
    rw [hQ.out]
    go_ret2
    exact ⟨by rw [HE.out.1, HE.out.2]; rfl, .inl ⟨HE.out.2, HH.out.below HB1.out, HB1.out⟩⟩
  · have HE : Hid (l[i]? = some m ∧ m.id = id ∧ idM id l = some m) := ⟨h2, h4, h3⟩
    obtain ⟨hh0, hh1⟩ := hh m h3
    have hil : i < l.length := by
      rcases Nat.lt_or_ge i l.length with h | h
      · exact h
      · rw [List.getElem?_eq_none h] at h2; cases h2
    obtain ⟨g, cap, cs, p1, p2, p3, p4, p5, p6, p7⟩ := h.poke h2
    obtain ⟨n, hn'⟩ : ∃ n, l.length = n := ⟨_, rfl⟩
    rw [hn'] at p1 hil
    have HP : Hid (Bk d w #[.slice (some ⟨g, 0, none⟩) n cap] 80 ∧ Bk g w cs.toArray 83 ∧ i * 16 + 16 ≤ cs.length ∧ B ≤ g ∧ g ≠ d) := ⟨p1, p2, p3, p4, p5⟩
    have HP6 : Hid (∀ j u, (mbL m)[j]? = some u → cs[i * 16 + j]? = some u) := p6
    have HP7 : Hid (∀ j u m' W, j < 16 → mbL m' = (mbL m).set j u → Bk g W (cs.set (i * 16 + j) u).toArray 83 → w.grownBy W (some g) → Rt W d B (l.set i m')) := p7
    have hin : (i : Int) < n := by omega
    have hn16 : (n : Int) ≤ 16 := by have := h.len; omega
    have hi0 : (0 : Int) ≤ i := Int.natCast_nonneg i
    have hix := ix_g g n cap i hin
    rw [h1] at CA
    simp only [Int.natCast_zero, Int.zero_add] at CA
    have HK : Hid (rhR l id = (if m.ac.kind = 5 then hoN m else 0) ∧ rhB l id = decide (m.ac.kind = 5)) := by show _ ∧ _; unfold rhR rhB; rw [h3]; exact ⟨rfl, rfl⟩
    clear h1 h2 h3 h4 h p1 p2 p3 p4 p5 p6 p7 hn' hil hh
    go_enter Try.func31, Try.ntmps31
    refine post_hid fun Q hQ => ?_
    refine seq_hid fun R0 hR0 => ?_
    go_wp2_with fail
    rw [hR0.out]
    clear hR0
    refine seq_hid fun R0 hR0 => ?_
    go_wp2_with (go_at_call 50; refine CA.out.mono ?_; rintro e w1 ⟨rfl, hb1⟩; have HB1 : Hid (Below w.heap.size w w1) := hb1; clear hb1)
    rw [hR0.out]
    clear hR0 CA
    have HD1 : Hid (Bk d w1 #[.slice (some ⟨g, 0, none⟩) n cap] 80) := HP.out.1.kept (HB1.out.block _ HP.out.1.lt)
    have HG1 : Hid (Bk g w1 cs.toArray 83) := HP.out.2.1.kept (HB1.out.block _ HP.out.2.1.lt)
    have c0 : w1.cell? ⟨d, 0, none⟩ = some (.slice (some ⟨g, 0, none⟩) n cap) := HD1.out.cell 0
    have c1 : w1.cell? ⟨g, i * 16 + 1, none⟩ = some (.int .i64 m.ac.kind) := by rw [HG1.out.cell, List.getElem?_toArray]; exact HP6.out 1 _ rfl
    by_cases h5 : m.ac.kind = 5
    · rw [h5] at c1
      have H5k : Hid (m.ac.kind = 5) := h5
      clear h5
      have c15 : w1.cell? ⟨g, i * 16 + 15, none⟩ = some (.int .i64 m.hops) := by rw [HG1.out.cell, List.getElem?_toArray]; exact HP6.out 15 _ rfl
      go_upto_region 5 with (refine step_st1 (by rfl) _ _ rfl g (i * 16 + 15) (.int .i64 (m.hops + 1)) (by rfl) (by rfl) rfl (by kernel_rfl) rfl cs (by have := HP.out.2.2.1; omega) HG1.out ?_; intro w2 H2)
      have HW : Hid (Bk g w2 (cs.set (i * 16 + 15) (.int .i64 (m.hops + 1))).toArray 83 ∧ w.grownBy w2 (some g) ∧ Bk d w2 #[.slice (some ⟨g, 0, none⟩) n cap] 80) := ⟨H2.out.bk, grownBy_trans (grownBy_below HB1.out _) H2.out.gr, H2.out.other HD1.out (fun e => HP.out.2.2.2.2 e.symm)⟩
      have e0 : w2.cell? ⟨d, 0, none⟩ = some (.slice (some ⟨g, 0, none⟩) n cap) := HW.out.2.2.cell 0
      have e15 : w2.cell? ⟨g, i * 16 + 15, none⟩ = some (.int .i64 (m.hops + 1)) := by
        rw [HW.out.1.cell, List.getElem?_toArray, List.getElem?_set_self (by have := HP.out.2.2.1; omega)]
      have e9 : w2.cell? ⟨g, i * 16 + 9, none⟩ = some (.int .i64 m.ac.ttl) := by
        rw [HW.out.1.cell, List.getElem?_toArray, List.getElem?_set_ne (by omega)]; exact HP6.out 9 _ rfl
      clear H2 HD1 HG1 c0 c1 c15
      rename_i KK hKK
      have HKK : Hid _ := hKK
      clear hKK
      obtain ⟨M, hM⟩ : ∃ M, (if (1 : Int) < m.ac.ttl then m.ac.ttl else 1) = M := ⟨_, rfl⟩
      have hmx := run_mx2 1 m.ac.ttl M hM
      have HMM : Hid ((if (1 : Int) < m.ac.ttl then m.ac.ttl else 1) = M) := hM
      clear hM
      by_cases hgt : M < m.hops + 1
      · have HN : Hid (hoN m = 1) := by
          show _ = _
          unfold hoN
          rw [if_pos]
          have := HMM.out
          split at this <;> omega
        go_quiet (fail)
        rename_i nq
        refine HKK.out _ _ ?_
        clear HKK
        have HW3 : Hid (Bk g (w2.drewN nq) (cs.set (i * 16 + 15) (.int .i64 (m.hops + 1))).toArray 83) := HW.out.1
        go_upto_region 7 with (refine step_st1 (by rfl) _ _ rfl g (i * 16 + 15) (.int .i64 1) (by rfl) (by rfl) rfl (by kernel_rfl) rfl (cs.set (i * 16 + 15) (.int .i64 (m.hops + 1))) (by rw [List.length_set]; have := HP.out.2.2.1; omega) HW3.out ?_; intro w3 H3)
        have HW4 : Hid (Bk g w3 (cs.set (i * 16 + 15) (.int .i64 1)).toArray 83 ∧ w.grownBy w3 (some g) ∧ Bk d w3 #[.slice (some ⟨g, 0, none⟩) n cap] 80) := by
          refine ⟨?_, grownBy_trans HW.out.2.1 (grownBy_trans (grownBy_drewN w2 nq _) H3.out.gr), H3.out.other (show Bk d (w2.drewN nq) _ _ from HW.out.2.2) (fun e => HP.out.2.2.2.2 e.symm)⟩
          have := H3.out.bk
          rwa [List.set_set] at this
        have f0 : w3.cell? ⟨d, 0, none⟩ = some (.slice (some ⟨g, 0, none⟩) n cap) := HW4.out.2.2.cell 0
        have f15 : w3.cell? ⟨g, i * 16 + 15, none⟩ = some (.int .i64 1) := by
          rw [HW4.out.1.cell, List.getElem?_toArray, List.getElem?_set_self (by have := HP.out.2.2.1; omega)]
        clear H3 HW3 HW e0 e15 e9
        go_wp2_with fail
        rw [hQ.out]
        go_ret2
        refine ⟨by rw [HK.out.1, HK.out.2, if_pos H5k.out, decide_eq_true H5k.out, HN.out]; rfl, .inr ⟨i, m, g, cs.toArray, HE.out.1, HE.out.2.1, HE.out.2.2, H5k.out, ?_, HP.out.2.2.2.1, HP.out.2.1, HW4.out.2.1⟩⟩
        rw [HN.out]
        exact HP7.out 15 (.int .i64 1) _ w3 (by omega) rfl HW4.out.1 HW4.out.2.1
      · have HN : Hid (hoN m = m.hops + 1) := by
          show _ = _
          unfold hoN
          have := HMM.out
          split at this <;> split <;> omega
        have hgt2 : m.hops + 1 ≤ M := by omega
        go_quiet (fail)
        rename_i nq
        refine HKK.out _ _ ?_
        clear HKK
        have f0 : (w2.drewN nq).cell? ⟨d, 0, none⟩ = some (.slice (some ⟨g, 0, none⟩) n cap) := e0
        have f15 : (w2.drewN nq).cell? ⟨g, i * 16 + 15, none⟩ = some (.int .i64 (m.hops + 1)) := e15
        go_wp2_with fail
        rw [hQ.out]
        go_ret2
        refine ⟨by rw [HK.out.1, HK.out.2, if_pos H5k.out, decide_eq_true H5k.out, HN.out]; rfl, .inr ⟨i, m, g, cs.toArray, HE.out.1, HE.out.2.1, HE.out.2.2, H5k.out, ?_, HP.out.2.2.2.1, HP.out.2.1, grownBy_trans HW.out.2.1 (grownBy_drewN w2 nq _)⟩⟩
        rw [HN.out]
        exact HP7.out 15 (.int .i64 (m.hops + 1)) _ _ (by omega) rfl (show Bk g (w2.drewN nq) _ _ from HW.out.1) (grownBy_trans HW.out.2.1 (grownBy_drewN w2 nq _))
    · have h52 : (m.ac.kind == 5) = false := by simpa using h5
      have h53 : (m.ac.kind != 5) = true := by simpa using h5
      go_wp2_with fail
      rw [hQ.out]
      go_ret2
      exact ⟨by rw [HK.out.1, HK.out.2, if_neg h5, decide_eq_false h5]; rfl, .inl ⟨by rw [HK.out.2, decide_eq_false h5], HH.out.below HB1.out, HB1.out⟩⟩
end Go.Proofs.Ytnjdmkgkpdebdaa
