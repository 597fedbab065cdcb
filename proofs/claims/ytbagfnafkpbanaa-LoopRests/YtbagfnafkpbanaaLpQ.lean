/- LoopRests, walked. -/
import Derived.Test.YtbagfnafkpbanaaLpK
import Derived.Test.YtbagfnafkpbanaaGC
namespace Go.Proofs.Ytbagfnafkpbanaa
open Go Go.RowKit Go.Sort
set_option linter.unusedVariables false
set_option linter.unusedSimpArgs false
theorem Sp.at2 {N : Nat} {u : World} {ao : Option Addr} {n cap : Nat} {xs : List Stp} (h : Sp N u (.slice ao n cap) xs) (k : Nat) (hk : k < xs.length) {ad : Addr} (hix : ∀ u, Sem.run Try.prog (Instr.indexAt 31 (.slice ao n cap) (.int .i64 (k : Int))) u = .ok (.pointer (some ad)) u) : ∀ j v, 0 < j → (spL (xs.getD k z15))[j]? = some v → u.cell? ⟨ad.block, ad.off + j, none⟩ = some v := by
  obtain ⟨ad2, h1, -, h3, -⟩ := h.at k hk
  have e := (hix u).symm.trans (h1 u)
  injection e with e1
  injection e1 with e1
  injection e1 with e1
  subst e1
  intro j v hj0 hj
  have := h3 j v hj
  unfold Addr.add at this
  rw [if_neg (by omega)] at this
  exact this
/-- rate, state and exponent as they were -/
structure Sr (S s : Lp) : Prop where
  ok : OkL s
  rt : s.rate = S.rate
  st : s.st = S.st
  ex : s.exp = S.exp
theorem Sr.tic {S s : Lp} (h : Sr S s) : Sr S (ticS s) := ⟨h.ok.tic, h.rt, h.st, h.ex⟩
theorem tick_size {s : Lp} (h : OkL s) : szS (sv (s.left - tkX s)) ≤ szS (sv s.left) := by
  have hb := tk_bd h
  have l0 := h.l0; have l1 := h.l1
  rw [szS_sv, szS_sv, sv_in (by omega) (by omega), sv_in (by omega) (by omega)]
  omega
set_option maxRecDepth 20000 in
set_option maxHeartbeats 4000000 in
theorem LoopRests_row (c : List Value) (f : Int) (v : Value) (ticks : Int) (st pa so : Int) (ss : List Stp) (w : World) (hc : Cg c st pa so) (hf : -9223372036854775808 ≤ f ∧ f ≤ 9223372036854775807) (hv : Sp w.heap.size w v ss) (ht : 0 ≤ ticks ∧ ticks < 256) :
    Calls Try.prog 3 #[.agg c.toArray, .int .i64 f, v, .int .u8 ticks] w fun e w' => e = .returned (.bool true) ∧ Below w.heap.size w w' := by
  obtain ⟨ao, cap, rfl, -⟩ := hv.ex
  obtain ⟨n, hn⟩ : ∃ n, n = ss.length := ⟨_, rfl⟩
  rw [← hn] at hv ⊢
  obtain ⟨m, hm⟩ : ∃ m : Nat, ticks = (m : Int) := ⟨ticks.toNat, by omega⟩
  subst hm
  have HV : Hid (Sp w.heap.size w (.slice ao n cap) ss ∧ n = ss.length) := ⟨hv, hn⟩
  obtain ⟨c0, c1, c2, c3, c4, c5, c6, c7, c8, c9, c10, c11, c12, c13, c14, rfl⟩ := list15 hc.len
  have HG : Hid (Cg [c0, c1, c2, c3, c4, c5, c6, c7, c8, c9, c10, c11, c12, c13, c14] st pa so ∧ (-9223372036854775808 ≤ f ∧ f ≤ 9223372036854775807) ∧ (Try.prog.info? 29).map (·.size) = some ([c0, c1, c2, c3, c4, c5, c6, c7, c8, c9, c10, c11, c12, c13, c14] : List Value).length) := ⟨hc, hf, by rw [hc.len]; kernel_rfl⟩
  have g1 : wrap64 (m : Int) = m := w64i _ (by omega) (by omega)
  have g2 : IntKind.i64.wrap (m : Int) = m := by rw [IntWalk.i64_left]; exact g1
  have HM : Hid ((m : Int) < 256) := ht.2
  clear hv hn hc hf ht
  go_enter Try.func3, Try.ntmps3
  refine post_hid fun Q hQ => ?_
  refine seq_hid fun R hR => ?_
  go_wp2_with (refine step_boxL (by rfl) 29 _ rfl [c0, c1, c2, c3, c4, c5, c6, c7, c8, c9, c10, c11, c12, c13, c14].toArray (by rfl) (fun u => by rfl) ?_; intro W g HW)
  rw [hR.out]
  clear hR
  have HC : Hid (∀ j u, ([c0, c1, c2, c3, c4, c5, c6, c7, c8, c9, c10, c11, c12, c13, c14] : List Value)[j]? = some u → W.cell? ((⟨g, 0, none⟩ : Addr).add j) = some u) := cells_of HW.out.bk
  by_cases z0 : 4096 < (n : Int)
  · go_wp2_with fail
    rw [hQ.out]
    go_ret
    exact ⟨rfl, HW.out.be⟩
  refine seq_hid fun R hR => ?_
  go_wp2_with fail
  rw [hR.out]
  clear hR
  obtain ⟨s0, hs0⟩ : ∃ s0, newS st pa so f true = s0 := ⟨_, rfl⟩
  have HO : Hid (OkL s0 ∧ newS st pa so f true = s0 ∧ s0.left = 0) := ⟨by rw [← hs0]; exact OkL.new _ _ _ _ _, hs0, by rw [← hs0]; rfl⟩
  clear hs0
  have HN := wl_new HG.out.1 HW.out.bk HW.out.be (by rw [HW.out.at']; exact Nat.le_refl _) f true
  rw [HO.out.2.1] at HN
  have HN : Hid (Calls Try.prog 9 #[.agg [c0, c1, c2, c3, c4, c5, c6, c7, c8, c9, c10, c11, c12, c13, c14].toArray, .int .i64 f, .bool true] W _) := HN
  refine seq_hid fun R hR => ?_
  go_wp2_with (first
    | (refine step_ldat 29 _ rfl rfl ⟨g, 0, none⟩ (by rfl) [c0, c1, c2, c3, c4, c5, c6, c7, c8, c9, c10, c11, c12, c13, c14] _ Try.underlying29 rfl HG.out.2.2 HC.out ?_)
    | (go_at_call 9; refine HN.out.mono ?_; rintro e w1 ⟨p, rfl, hp1, hp2, hb1⟩; have H1 : Hid (Wl w g [c0, c1, c2, c3, c4, c5, c6, c7, c8, c9, c10, c11, c12, c13, c14].toArray p s0 w1) := hp1; clear hp1 hp2 hb1))
  rw [hR.out]
  clear hR HN HC HW
  obtain ⟨F, hF⟩ : ∃ F, s0.rate = F := ⟨_, rfl⟩
  have KT : Hid ((∀ u, Wl w g [c0, c1, c2, c3, c4, c5, c6, c7, c8, c9, c10, c11, c12, c13, c14].toArray p s0 u → Calls Try.prog 10 #[.pointer (some ⟨p, 0, none⟩)] u fun e w' => e = .returned (.int .i64 0) ∧ Wl w g [c0, c1, c2, c3, c4, c5, c6, c7, c8, c9, c10, c11, c12, c13, c14].toArray p s0 w') ∧ (∀ u, Wl w g [c0, c1, c2, c3, c4, c5, c6, c7, c8, c9, c10, c11, c12, c13, c14].toArray p s0 u → Calls Try.prog 13 #[.agg [c0, c1, c2, c3, c4, c5, c6, c7, c8, c9, c10, c11, c12, c13, c14].toArray, .int .i64 f, .bool true] u fun e w' => ∃ q, e = .returned (.pointer (some ⟨q, 0, none⟩)) ∧ Wr w g [c0, c1, c2, c3, c4, c5, c6, c7, c8, c9, c10, c11, c12, c13, c14].toArray p q s0 w') ∧ s0.rate = F) := by
    have hb := tk_bd HO.out.1
    have hl := HO.out.2.2
    have e1 : tkX s0 = 0 := by omega
    have e2 : ticS s0 = s0 := by unfold ticS; rw [e1, Int.sub_zero]
    refine ⟨fun u hu => ?_, fun u hu => wr_new HG.out.1 hu f true HG.out.2.1 HO.out.2.1, hF⟩
    have := wl_tick hu HO.out.1
    rw [e1, e2] at this
    exact this
  have k4 : ∀ q u, Wr w g [c0, c1, c2, c3, c4, c5, c6, c7, c8, c9, c10, c11, c12, c13, c14].toArray p q s0 u → u.cell? ⟨q, 4, none⟩ = some (.int .i64 F) := fun q u hu => by rw [← hF]; exact hu.rp.cell 4
  have KC : Hid (∀ q u, Wr w g [c0, c1, c2, c3, c4, c5, c6, c7, c8, c9, c10, c11, c12, c13, c14].toArray p q s0 u → u.cell? ⟨q, 4, none⟩ = some (.int .i64 F)) := k4
  have KK : Hid (∀ u, Wl w g [c0, c1, c2, c3, c4, c5, c6, c7, c8, c9, c10, c11, c12, c13, c14].toArray p s0 u → (u.cell? ⟨g, 0, none⟩ = some c0 ∧ u.cell? ⟨g, 1, none⟩ = some c1 ∧ u.cell? ⟨g, 2, none⟩ = some c2 ∧ u.cell? ⟨g, 3, none⟩ = some c3 ∧ u.cell? ⟨g, 4, none⟩ = some c4 ∧ u.cell? ⟨g, 5, none⟩ = some c5 ∧ u.cell? ⟨g, 6, none⟩ = some c6 ∧ u.cell? ⟨g, 7, none⟩ = some c7 ∧ u.cell? ⟨g, 8, none⟩ = some c8 ∧ u.cell? ⟨g, 9, none⟩ = some c9 ∧ u.cell? ⟨g, 10, none⟩ = some c10 ∧ u.cell? ⟨g, 11, none⟩ = some c11 ∧ u.cell? ⟨g, 12, none⟩ = some c12 ∧ u.cell? ⟨g, 13, none⟩ = some c13 ∧ u.cell? ⟨g, 14, none⟩ = some c14)) := fun u hu => ⟨hu.ck.cell 0, hu.ck.cell 1, hu.ck.cell 2, hu.ck.cell 3, hu.ck.cell 4, hu.ck.cell 5, hu.ck.cell 6, hu.ck.cell 7, hu.ck.cell 8, hu.ck.cell 9, hu.ck.cell 10, hu.ck.cell 11, hu.ck.cell 12, hu.ck.cell 13, hu.ck.cell 14⟩
  have KL : Hid (∀ u, Wl w g [c0, c1, c2, c3, c4, c5, c6, c7, c8, c9, c10, c11, c12, c13, c14].toArray p s0 u → ∀ j v, ([c0, c1, c2, c3, c4, c5, c6, c7, c8, c9, c10, c11, c12, c13, c14] : List Value)[j]? = some v → u.cell? ((⟨g, 0, none⟩ : Addr).add j) = some v) := fun u hu => cells_of hu.ck
  clear hF k4
  go_upto_region 4 with fail
  go_cut [41] from 23 to 41 (fun x wx => x = .bool false ∧ Hid (Wl w g [c0, c1, c2, c3, c4, c5, c6, c7, c8, c9, c10, c11, c12, c13, c14].toArray p s0 wx))
  case first =>
    go_wp2_with fail
    rw [hQ.out]
    refine wp_region_held_drew (S := fun w' => w'.cell? ⟨g, 0, none⟩ = some c0 ∧ w'.cell? ⟨g, 1, none⟩ = some c1 ∧ w'.cell? ⟨g, 2, none⟩ = some c2 ∧ w'.cell? ⟨g, 3, none⟩ = some c3 ∧ w'.cell? ⟨g, 4, none⟩ = some c4 ∧ w'.cell? ⟨g, 5, none⟩ = some c5 ∧ w'.cell? ⟨g, 6, none⟩ = some c6 ∧ w'.cell? ⟨g, 7, none⟩ = some c7 ∧ w'.cell? ⟨g, 8, none⟩ = some c8 ∧ w'.cell? ⟨g, 9, none⟩ = some c9 ∧ w'.cell? ⟨g, 10, none⟩ = some c10 ∧ w'.cell? ⟨g, 11, none⟩ = some c11 ∧ w'.cell? ⟨g, 12, none⟩ = some c12 ∧ w'.cell? ⟨g, 13, none⟩ = some c13 ∧ w'.cell? ⟨g, 14, none⟩ = some c14) (by kernel_rfl) (KK.out _ H1.out.drew) (fun hHeld => ?_)
    refine wpAnyH_take (i := 0) (v := ?_) rfl (by kernel_rfl) (by kernel_rfl) (by kernel_rfl) (fun _ _ _ h => h) (Or.inl ⟨by rfl, ?_⟩) (by assumption) ?_
    rotate_left
    · (intro w hSw; (try dsimp only at hSw); go_split_ands; go_simp; first | done | with_reducible rfl)
    try simp only [Act.put, List.setIfInBounds_toArray, List.set_cons_zero, List.set_cons_succ]
    refine wpAnyH_ready (rs := [1]) (by kernel_rfl) (by simp) ?_
    refine AllReadyH.cons rfl (fun K hK => ?_) AllReadyH.nil
    go_simp
    go_wp2_with ((go_at_call 10; refine (KT.out.1 _ H1.out.drew).mono ?_; rintro e u1 ⟨rfl, h2⟩; have H2 : Hid (Wl w g [c0, c1, c2, c3, c4, c5, c6, c7, c8, c9, c10, c11, c12, c13, c14].toArray p s0 u1) := h2; clear h2))
    refine hK.out _ _ (KK.out _ H2.out) (fun hHeld => ?_)
    clear hK K
    refine wpAnyH_take (i := 2) (v := ?_) rfl (by kernel_rfl) (by kernel_rfl) (by kernel_rfl) (fun _ _ _ h => h) (Or.inl ⟨by rfl, ?_⟩) (by assumption) ?_
    rotate_left
    · (intro w hSw; (try dsimp only at hSw); go_split_ands; go_simp; first | done | with_reducible rfl)
    try simp only [Act.put, List.setIfInBounds_toArray, List.set_cons_zero, List.set_cons_succ]
    refine wpAnyH_take (i := 3) (v := ?_) rfl (by kernel_rfl) (by kernel_rfl) (by kernel_rfl) (fun _ _ _ h => h) (Or.inl ⟨by rfl, ?_⟩) (by assumption) ?_
    rotate_left
    · (intro w hSw; (try dsimp only at hSw); go_split_ands; go_simp; first | done | with_reducible rfl)
    try simp only [Act.put, List.setIfInBounds_toArray, List.set_cons_zero, List.set_cons_succ]
    refine wpAnyH_take (i := 4) (v := ?_) rfl (by kernel_rfl) (by kernel_rfl) (by kernel_rfl) (fun _ _ _ h => h) (Or.inl ⟨by rfl, ?_⟩) (by assumption) ?_
    rotate_left
    · (intro w hSw; (try dsimp only at hSw); go_split_ands; go_simp; first | done | with_reducible rfl)
    try simp only [Act.put, List.setIfInBounds_toArray, List.set_cons_zero, List.set_cons_succ]
    refine wpAnyH_ready (rs := [5]) (by kernel_rfl) (by simp) ?_
    refine AllReadyH.cons rfl (fun K hK => ?_) AllReadyH.nil
    go_simp
    go_wp2_with ((go_at_call 11; refine (wl_left H2.out 0 HO.out.2.2).mono ?_; rintro e u2 ⟨rfl, hw⟩; rw [hw]; clear hw))
    refine hK.out _ _ (KK.out _ H2.out) (fun hHeld => ?_)
    clear hK K
    refine wpAnyH_take (i := 6) (v := ?_) rfl (by kernel_rfl) (by kernel_rfl) (by kernel_rfl) (fun _ _ _ h => h) (Or.inl ⟨by rfl, ?_⟩) (by assumption) ?_
    rotate_left
    · (intro w hSw; (try dsimp only at hSw); go_split_ands; go_simp; first | done | with_reducible rfl)
    try simp only [Act.put, List.setIfInBounds_toArray, List.set_cons_zero, List.set_cons_succ]
    refine wpAnyH_take (i := 7) (v := ?_) rfl (by kernel_rfl) (by kernel_rfl) (by kernel_rfl) (fun _ _ _ h => h) (Or.inl ⟨by rfl, ?_⟩) (by assumption) ?_
    rotate_left
    · (intro w hSw; (try dsimp only at hSw); go_split_ands; go_simp; first | done | with_reducible rfl)
    try simp only [Act.put, List.setIfInBounds_toArray, List.set_cons_zero, List.set_cons_succ]
    refine wpAnyH_take (i := 8) (v := ?_) rfl (by kernel_rfl) (by kernel_rfl) (by kernel_rfl) (fun _ _ _ h => h) (Or.inl ⟨by rfl, ?_⟩) (by assumption) ?_
    rotate_left
    · (intro w hSw; (try dsimp only at hSw); go_split_ands; go_simp; first | done | with_reducible rfl)
    try simp only [Act.put, List.setIfInBounds_toArray, List.set_cons_zero, List.set_cons_succ]
    refine wpAnyH_take (i := 9) (v := ?_) rfl (by kernel_rfl) (by kernel_rfl) (by kernel_rfl) (fun _ _ _ h => h) (Or.inl ⟨by rfl, ?_⟩) (by assumption) ?_
    rotate_left
    · (intro w hSw; (try dsimp only at hSw); go_split_ands; go_simp; first | done | with_reducible rfl)
    try simp only [Act.put, List.setIfInBounds_toArray, List.set_cons_zero, List.set_cons_succ]
    refine wpAnyH_take (i := 11) (v := ?_) rfl (by kernel_rfl) (by kernel_rfl) (by kernel_rfl) (fun _ _ _ h => h) (Or.inl ⟨by rfl, ?_⟩) (by assumption) ?_
    rotate_left
    · (intro w hSw; (try dsimp only at hSw); go_split_ands; go_simp; first | done | with_reducible rfl)
    try simp only [Act.put, List.setIfInBounds_toArray, List.set_cons_zero, List.set_cons_succ]
    refine wpAnyH_take (i := 12) (v := ?_) rfl (by kernel_rfl) (by kernel_rfl) (by kernel_rfl) (fun _ _ _ h => h) (Or.inl ⟨by rfl, ?_⟩) (by assumption) ?_
    rotate_left
    · (intro w hSw; (try dsimp only at hSw); go_split_ands; go_simp; first | done | with_reducible rfl)
    try simp only [Act.put, List.setIfInBounds_toArray, List.set_cons_zero, List.set_cons_succ]
    refine wpAnyH_ready (rs := [10]) (by kernel_rfl) (by simp) ?_
    refine AllReadyH.cons rfl (fun K hK => ?_) AllReadyH.nil
    go_simp
    go_wp2_with ((go_at_call 12; refine (wl_freq H2.out F KT.out.2.2).mono ?_; rintro e u3 ⟨rfl, hw⟩; rw [hw]; clear hw))
    refine hK.out _ _ (KK.out _ H2.out) (fun hHeld => ?_)
    clear hK K
    refine wpAnyH_ready (rs := [13]) (by kernel_rfl) (by simp) ?_
    refine AllReadyH.cons rfl (fun K hK => ?_) AllReadyH.nil
    go_simp
    go_wp2_with ((go_at_call 13; refine (KT.out.2.1 _ H2.out).mono ?_; rintro e u4 ⟨q, rfl, h3⟩; have H3 : Hid (Wr w g [c0, c1, c2, c3, c4, c5, c6, c7, c8, c9, c10, c11, c12, c13, c14].toArray p q s0 u4) := h3; clear h3; have k4 : u4.cell? ⟨q, 4, none⟩ = some (.int .i64 F) := (KC.out q u4 H3.out)))
    refine hK.out _ _ (KK.out _ H3.out.wl) (fun hHeld => ?_)
    clear hK K
    refine wpAnyH_take (i := 14) (v := ?_) rfl (by kernel_rfl) (by kernel_rfl) (by kernel_rfl) (fun _ _ _ h => h) (Or.inl ⟨by rfl, ?_⟩) (by assumption) ?_
    rotate_left
    · (intro w hSw; (try dsimp only at hSw); go_split_ands; go_simp; first | done | with_reducible rfl)
    try simp only [Act.put, List.setIfInBounds_toArray, List.set_cons_zero, List.set_cons_succ]
    refine wpAnyH_take (i := 15) (v := ?_) rfl (by kernel_rfl) (by kernel_rfl) (by kernel_rfl) (fun _ _ _ h => h) (Or.inl ⟨by rfl, ?_⟩) (by assumption) ?_
    rotate_left
    · (intro w hSw; (try dsimp only at hSw); go_split_ands; go_simp; first | done | with_reducible rfl)
    try simp only [Act.put, List.setIfInBounds_toArray, List.set_cons_zero, List.set_cons_succ]
    refine wpAnyH_ready (rs := [16]) (by kernel_rfl) (by simp) ?_
    refine AllReadyH.cons rfl (fun K hK => ?_) AllReadyH.nil
    go_simp
    go_wp2_with (fail)
    refine hK.out _ _ (KK.out _ H3.out.wl) (fun hHeld => ?_)
    clear hK K
    refine wpAnyH_take (i := 17) (v := ?_) rfl (by kernel_rfl) (by kernel_rfl) (by kernel_rfl) (fun _ _ _ h => h) (Or.inl ⟨by rfl, ?_⟩) (by assumption) ?_
    rotate_left
    · (intro w hSw; (try dsimp only at hSw); go_split_ands; go_simp; first | done | with_reducible rfl)
    try simp only [Act.put, List.setIfInBounds_toArray, List.set_cons_zero, List.set_cons_succ]
    refine wpAnyH_take (i := 18) (v := ?_) rfl (by kernel_rfl) (by kernel_rfl) (by kernel_rfl) (fun _ _ _ h => h) (Or.inl ⟨by rfl, ?_⟩) (by assumption) ?_
    rotate_left
    · (intro w hSw; (try dsimp only at hSw); go_split_ands; go_simp; first | done | with_reducible rfl)
    try simp only [Act.put, List.setIfInBounds_toArray, List.set_cons_zero, List.set_cons_succ]
    refine wpAnyH_done (by kernel_rfl) ?_ _
    go_simp
    go_wp2_with fail
    go_meet
    exact ⟨rfl, H3.out.wl⟩
  case rest =>
    obtain ⟨rfl, H2⟩ := hcut
    have HL : Hid (OkL s0) := HO.out.1
    clear HO KT KC KL KK H1
    go_wp2_with fail
    go_loopw [10] (fun i wr => ∃ (k : Nat) (s : Lp), i = .int .i64 k ∧ (k : Int) ≤ n ∧ Hid (Wl w g [c0, c1, c2, c3, c4, c5, c6, c7, c8, c9, c10, c11, c12, c13, c14].toArray p s wr ∧ OkL s)) (fun i _ => n - (intOf i).toNat)
    case atStart => exact ⟨0, s0, rfl, by omega, ⟨H2.out, HL.out⟩⟩
    case round =>
      obtain ⟨k, s, rfl, hk, HS⟩ := hrel
      by_cases hlt : (k : Int) < n
      · have hkx : k < ss.length := by have := HV.out.2; omega
        obtain ⟨ad, hix, hab, hac, hok⟩ := (HV.out.1.below HS.out.1.be (Nat.le_refl _)).at k hkx
        clear hab hac
        obtain ⟨y, hy⟩ : ∃ y, ss.getD k z15 = y := ⟨_, rfl⟩
        rw [hy] at hok
        obtain ⟨yk, yo, yj, yn⟩ := y
        have HY : Hid (∀ u, Below w.heap.size w u → u.cell? ⟨ad.block, ad.off + 1, none⟩ = some (.int .i64 yo) ∧ u.cell? ⟨ad.block, ad.off + 2, none⟩ = some (.int .i64 yj) ∧ u.cell? ⟨ad.block, ad.off + 3, none⟩ = some (.int .i64 yn)) := fun u hu => by
          have h := (HV.out.1.below hu (Nat.le_refl _)).at2 k hkx hix
          rw [hy] at h
          exact ⟨h 1 _ (by decide) rfl, h 2 _ (by decide) rfl, h 3 _ (by decide) rfl⟩
        obtain ⟨A, hA⟩ : ∃ A, (upd s yo yj yn).2.1 = A := ⟨_, rfl⟩
        obtain ⟨X, hX⟩ : ∃ X, (upd s yo yj yn).2.2 = X := ⟨_, rfl⟩
        obtain ⟨S, hS⟩ : ∃ S, (upd s yo yj yn).1 = S := ⟨_, rfl⟩
        obtain ⟨RT, hRT⟩ : ∃ x, S.rate = x := ⟨_, rfl⟩
        obtain ⟨ST, hST⟩ : ∃ x, S.st = x := ⟨_, rfl⟩
        obtain ⟨EX, hEX⟩ : ∃ x, S.exp = x := ⟨_, rfl⟩
        have KU : Hid ((∀ u, Wl w g [c0, c1, c2, c3, c4, c5, c6, c7, c8, c9, c10, c11, c12, c13, c14].toArray p s u → Calls Try.prog 14 #[.pointer (some ⟨p, 0, none⟩), .int .i64 yo, .int .i64 yj, .int .i64 yn] u fun e w' => e = .returned (.tuple #[.int .i64 A, .int .i64 X]) ∧ Wl w g [c0, c1, c2, c3, c4, c5, c6, c7, c8, c9, c10, c11, c12, c13, c14].toArray p S w') ∧ OkL S ∧ S.rate = RT ∧ S.st = ST ∧ S.exp = EX) := by
          refine ⟨fun u hu => ?_, by rw [← hS]; exact HS.out.2.upd _ _ _, hRT, hST, hEX⟩
          rw [← hA, ← hX, ← hS]
          exact wl_upd hu HS.out.2 yo yj yn hok.o hok.j
        clear hA hX hS hy hok hkx hRT hST hEX
        obtain ⟨y1, y2, y3⟩ := HY.out wr HS.out.1.be
        refine seq_hid fun R hR => ?_
        go_wp2_with fail
        rw [hR.out]
        clear hR
        go_wp2_with fail
        refine wp_region_lastC 64 (by kernel_rfl) (by kernel_rfl) (by rfl) (by kernel_rfl) ?_
        simp only [idleLast, idle]
        refine QW.out ?_
        repeat (refine qw_step (fun K hK => ?_); go_simp; (refine hK _ ?_; clear hK K))
        refine qw_nil ?_
        intro _ hw' x
        obtain ⟨nq, hw''⟩ := hw'
        subst hw''
        go_simp
        refine wpOp_callL (R := fun w' => Wl w g [c0, c1, c2, c3, c4, c5, c6, c7, c8, c9, c10, c11, c12, c13, c14].toArray p S w') _ (by rfl) rfl 14 #[.pointer (some ⟨p, 0, none⟩), .int .i64 yo, .int .i64 yj, .int .i64 yn] (.tuple #[.int .i64 A, .int .i64 X]) (by go_simp; first | done | exact rfl) (KU.out.1 _ (HS.out.1.drewN _)) ?_
        intro u1 h1
        have H3 : Hid (Wl w g [c0, c1, c2, c3, c4, c5, c6, c7, c8, c9, c10, c11, c12, c13, c14].toArray p S u1) := h1
        clear h1 y1 y2 y3
        go_simp
        have hmb : (m : Int) < 256 := HM.out
        go_wp2_with (first
          | (go_at_call 12; refine (wl_freq H3.out RT KU.out.2.2.1).mono ?_; rintro e w4 ⟨rfl, hw⟩; rw [hw]; clear hw)
          | (go_at_call 15; refine (wl_state H3.out ST KU.out.2.2.2.1).mono ?_; rintro e w4 ⟨rfl, hw⟩; rw [hw]; clear hw)
          | (go_at_call 16; refine (wl_poll H3.out EX KU.out.2.2.2.2).mono ?_; rintro e w4 ⟨rfl, hw⟩; rw [hw]; clear hw))
        go_loopw [14] (fun i wi => ∃ (j : Nat) (s' : Lp), i = .int .i64 j ∧ (j : Int) ≤ m ∧ Hid (Wl w g [c0, c1, c2, c3, c4, c5, c6, c7, c8, c9, c10, c11, c12, c13, c14].toArray p s' wi ∧ Sr S s')) (fun i _ => m - (intOf i).toNat)
        case atStart => exact ⟨0, S, rfl, by omega, ⟨H3.out, KU.out.2.1, rfl, rfl, rfl⟩⟩
        case round =>
          obtain ⟨j, s', rfl, hj, HI⟩ := hrel
          by_cases hlj : (j : Int) < m
          · obtain ⟨L, hL⟩ : ∃ L, s'.left = L := ⟨_, rfl⟩
            obtain ⟨X2, hX2⟩ : ∃ X, tkX s' = X := ⟨_, rfl⟩
            obtain ⟨L2, hL2⟩ : ∃ L2, L - X2 = L2 := ⟨_, rfl⟩
            obtain ⟨z1, hz1⟩ : ∃ z, szS (sv L2) = z := ⟨_, rfl⟩
            obtain ⟨z2, hz2⟩ : ∃ z, szS (sv L) = z := ⟨_, rfl⟩
            have e2 : (ticS s').left = L2 := by show s'.left - tkX s' = L2; rw [hL, hX2, hL2]
            have hz : decide (z2 < z1) = false := by
              have h := tick_size HI.out.2.ok
              rw [hL, hX2, hL2, hz1, hz2] at h
              simp; omega
            have bL := HI.out.2.ok.l0
            have bL' := HI.out.2.ok.l1
            have bM := HI.out.2.tic.ok.l0
            have bM' := HI.out.2.tic.ok.l1
            rw [hL] at bL bL'
            rw [e2] at bM bM'
            obtain ⟨u1', u2'⟩ := wrapS hL2 (by omega) (by omega)
            have KI : Hid ((∀ u, Wl w g [c0, c1, c2, c3, c4, c5, c6, c7, c8, c9, c10, c11, c12, c13, c14].toArray p s' u → Calls Try.prog 10 #[.pointer (some ⟨p, 0, none⟩)] u fun e w' => e = .returned (.int .i64 X2) ∧ Wl w g [c0, c1, c2, c3, c4, c5, c6, c7, c8, c9, c10, c11, c12, c13, c14].toArray p (ticS s') w') ∧ (∀ u, Calls Try.prog 17 #[.int .i64 L2] u fun e w' => e = .returned (.int .i64 z1) ∧ w' = u) ∧ (∀ u, Calls Try.prog 17 #[.int .i64 L] u fun e w' => e = .returned (.int .i64 z2) ∧ w' = u) ∧ s'.left = L ∧ (ticS s').left = L2) := by
              refine ⟨fun u hu => ?_, fun u => ?_, fun u => ?_, hL, e2⟩
              · rw [← hX2]; exact wl_tick hu HI.out.2.ok
              · rw [← hz1]; exact lsize_any _ _ (by omega)
              · rw [← hz2]; exact lsize_any _ _ (by omega)
            clear hL hX2 hL2 hz1 hz2 e2 bL bL' bM bM'
            go_wp2_with (first
              | (go_at_call 11; first | ((with_reducible refine (wl_left H6.out L2 KI.out.2.2.2.2).mono ?_); rintro e w4 ⟨rfl, hw⟩; rw [hw]; clear hw) | ((with_reducible refine (wl_left HI.out.1 L KI.out.2.2.2.1).mono ?_); rintro e w4 ⟨rfl, hw⟩; rw [hw]; clear hw))
              | (go_at_call 10; refine (KI.out.1 _ HI.out.1).mono ?_; rintro e w6 ⟨rfl, h6⟩; have H6 : Hid (Wl w g [c0, c1, c2, c3, c4, c5, c6, c7, c8, c9, c10, c11, c12, c13, c14].toArray p (ticS s') w6) := h6; clear h6)
              | (go_at_call 17; first | ((with_reducible refine (KI.out.2.1 _).mono ?_); rintro e w7 ⟨rfl, hw⟩; rw [hw]; clear hw) | ((with_reducible refine (KI.out.2.2.1 _).mono ?_); rintro e w7 ⟨rfl, hw⟩; rw [hw]; clear hw)))
            go_roundw
            case rel => exact ⟨j + 1, ticS s', by go_num, by omega, ⟨H6.out, HI.out.2.tic⟩⟩
            case measure => simp [intOf]; omega
          · have KE : Hid (s'.rate = RT ∧ s'.st = ST ∧ s'.exp = EX) := ⟨HI.out.2.rt.trans KU.out.2.2.1, HI.out.2.st.trans KU.out.2.2.2.1, HI.out.2.ex.trans KU.out.2.2.2.2⟩
            go_wp2_with (first
              | (go_at_call 12; refine (wl_freq HI.out.1 RT KE.out.1).mono ?_; rintro e w4 ⟨rfl, hw⟩; rw [hw]; clear hw)
              | (go_at_call 15; refine (wl_state HI.out.1 ST KE.out.2.1).mono ?_; rintro e w4 ⟨rfl, hw⟩; rw [hw]; clear hw)
              | (go_at_call 16; refine (wl_poll HI.out.1 EX KE.out.2.2).mono ?_; rintro e w4 ⟨rfl, hw⟩; rw [hw]; clear hw))
            go_roundw
            case rel => exact ⟨k + 1, s', by go_num, by omega, ⟨HI.out.1, HI.out.2.ok⟩⟩
            case measure => simp [intOf]; omega
      · go_wp2_with fail
        rw [hQ.out]
        go_ret
        exact ⟨rfl, HS.out.1.be⟩
end Go.Proofs.Ytbagfnafkpbanaa
