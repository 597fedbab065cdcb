/- Where a sender stands: IndexFunc, indexOf, indexOfOldest. -/
import Derived.Test.YtmgphfdieekpdaaRM
namespace Go.Proofs.Ytmgphfdieekpdaa
open Go Go.RowKit
theorem Rk.sn {N : Nat} {w : World} {v : Value} {xs : List Sn} (h : Rk N w 6 v (xs.map snL)) : ∃ ao cap, v = .slice ao xs.length cap ∧ xs.length ≤ cap ∧ ∀ i (hi : i < xs.length), ∃ ad, ao = some ad ∧ ad.block < N ∧ ∀ j u, (snL xs[i])[j]? = some u → w.cell? ((ad.add (i * 6)).add j) = some u := by
  obtain ⟨ao, cap, h1, h2, h3⟩ := h
  rw [List.length_map] at h1 h2 h3
  refine ⟨ao, cap, h1, h2, fun i hi => ?_⟩
  obtain ⟨ad, g1, g2, g3⟩ := h3 i hi
  refine ⟨ad, g1, g2, fun j u hu => ?_⟩
  rw [add_add]
  exact g3 j u (by rw [getD_map' snL xs i hi]; exact hu)
theorem add5 (A : Addr) : A.add 5 = ⟨A.block, A.off + 5, none⟩ := by simp [Addr.add]
set_option maxHeartbeats 400000 in
theorem indexOf1_any (s : Sn) (a : Int) (g : Nat) (w : World) (hg : w.cell? ⟨g, 0, none⟩ = some (.int .u32 a)) : Calls Try.prog 47 #[.agg (snL s).toArray, .pointer (some ⟨g, 0, none⟩)] w fun e w' => e = .returned (.bool (decide (s.addr = a))) ∧ Below w.heap.size w w' := by
  obtain ⟨x0, x1, x2, x3, x4, x5⟩ := s
  unfold snL
  have hg2 : ∀ o, (w.alloc o).cell? ⟨g, 0, none⟩ = some (.int .u32 a) := fun o => by
    rw [World.cell?_alloc_lt _ _ _ (World.block_lt_of_cell? _ _ hg)]; exact hg
  go_enter Try.func47, Try.ntmps47
  go_wp2
  go_ret
  exact ⟨ret_bool' (by rfl), (by repeat' (first | with_reducible exact Below.refl _ _ | with_reducible refine Below.setCell ?_ (by first | (simp; done) | (simp; omega) | omega) _ | with_reducible refine below_drewN ?_ _ | with_reducible refine Below.drew ?_ | with_reducible refine Below.alloc ?_ (by first | (simp; done) | (simp; omega) | omega) _))⟩
/-- where the address stands -/
def atB (xs : List Sn) (a r : Int) : Prop := (r = -1 ∧ ∀ x ∈ xs, x.addr ≠ a) ∨ ∃ i, ∃ h : i < xs.length, r = (i : Int) ∧ xs[i].addr = a
set_option maxHeartbeats 1000000 in
theorem snIndex_any (N : Nat) (v : Value) (ks : List Sn) (a : Int) (g : Nat) (w : World) (h : Rk N w 6 v (ks.map snL)) (hN : N ≤ w.heap.size) (hl : ks.length ≤ 100000) (hg : w.cell? ⟨g, 0, none⟩ = some (.int .u32 a)) :
    Calls Try.prog 46 #[v, .func (.func 47) #[] #[.pointer (some ⟨g, 0, none⟩)]] w fun e w' => ∃ r : Int, e = .returned (.int .i64 r) ∧ Hid (atB ks a r) ∧ Below w.heap.size w w' := by
  obtain ⟨ao, cap, rfl, hc, hcell⟩ := h.sn
  obtain ⟨L, hL⟩ : ∃ L, L = ks.length := ⟨_, rfl⟩
  rw [← hL]
  have HL : Hid (L = ks.length) := hL
  have l1 : (L : Int) ≤ 100000 := by omega
  have HH : Hid ((∀ i (hi : i < ks.length), ∃ ad, ao = some ad ∧ ad.block < N ∧ ∀ j u, (snL ks[i])[j]? = some u → w.cell? ((ad.add (i * 6)).add j) = some u) ∧ N ≤ w.heap.size ∧ w.cell? ⟨g, 0, none⟩ = some (.int .u32 a)) := ⟨hcell, hN, hg⟩
  clear hcell hN hg hc hl hL h
  go_enter Try.func46, Try.ntmps46
  go_wp2
  go_loopw [8] (fun i wr => ∃ (k : Nat), i = .int .i64 (k : Int) ∧ (k : Int) ≤ L ∧ Hid (∀ j (hj : j < ks.length), j < k → ks[j].addr ≠ a) ∧ Hid (Below w.heap.size w wr)) (fun i _ => (L - intOf i).toNat)
  case atStart => exact ⟨0, rfl, by omega, fun j _ hj => absurd hj (by omega), Below.refl _ _⟩
  case round =>
    obtain ⟨k, rfl, hk, hA, hB⟩ := hrel
    by_cases hlt : (k : Int) < L
    · have hkx : k < ks.length := by have := HL.out; omega
      obtain ⟨ad, g1, g2, g3⟩ := HH.out.1 k hkx
      have hix : ∀ w, Sem.run Try.prog (Instr.indexAt 64 (.slice ao L cap) (.int .i64 (k : Int))) w = .ok (.pointer (some (ad.add (k * 6)))) w := ix_sn L cap k g1 hlt
      have HC : Hid (∀ j u, (snL ks[k])[j]? = some u → wr.cell? ((ad.add (k * 6)).add j) = some u) := fun j u hu => by
        rw [hB.out.cell (p := (ad.add (k * 6)).add j) (by rw [add_block, add_block]; have := HH.out.2.1; omega)]
        exact g3 j u hu
      obtain ⟨A, hA0⟩ : ∃ A, A = ad.add (k * 6) := ⟨_, rfl⟩
      rw [← hA0] at hix HC
      obtain ⟨X, hX⟩ : ∃ X, X = decide (ks[k].addr = a) := ⟨_, rfl⟩
      have HX : Hid (X = decide (ks[k].addr = a)) := hX
      obtain ⟨E, hE⟩ : ∃ E, E = ks[k] := ⟨_, rfl⟩
      have HFH : Hid (Calls Try.prog 47 #[.agg (snL E).toArray, .pointer (some ⟨g, 0, none⟩)] wr fun e w' => e = .returned (.bool X) ∧ Below wr.heap.size wr w') := by
        have := indexOf1_any E a g wr (by rw [hB.out.cell (p := ⟨g, 0, none⟩) (World.block_lt_of_cell? _ _ HH.out.2.2)]; exact HH.out.2.2)
        rw [hX, ← hE]
        exact this
      rw [← hE] at HC
      have hs3 : (snL E).length = 6 := rfl
      clear hX hA0 g1 g3 hE
      go_wp2_with (refine step_ldat 75 _ (by rfl) (by rfl) A (by rfl) (snL E) _ Try.underlying75 (by rfl) sn_info ?_ ?_; exact HC.out)
      refine HFH.out.mono ?_
      rintro e w1 ⟨rfl, hb1⟩
      have B1 : Hid (Below w.heap.size w w1) := hB.out.trans (hb1.mono hB.out.size)
      clear hb1
      cases X
      · go_wp2_with fail
        refine ⟨⟨k + 1, by go_num, by omega, fun j hj hjk => ?_, B1⟩, by simp [intOf]; omega⟩
        by_cases hj2 : j < k
        · exact hA.out j hj hj2
        · have : j = k := by omega
          subst this
          exact of_decide_eq_false HX.out.symm
      · go_wp2_with fail
        go_ret
        exact ⟨_, rfl, .inr ⟨k, hkx, rfl, of_decide_eq_true HX.out.symm⟩, B1.out⟩
    · have HN : Hid (∀ x ∈ ks, x.addr ≠ a) := fun x hx => by
        obtain ⟨j, hj, rfl⟩ := List.getElem_of_mem hx
        exact hA.out j hj (by have := HL.out; omega)
      go_wp2
      go_ret
      exact ⟨-1, rfl, .inl ⟨rfl, HN.out⟩, hB.out⟩
set_option maxHeartbeats 400000 in
theorem indexOf_any (N : Nat) (sv : Value) (xs : List Sn) (a : Int) (g : Nat) (w : World) (h : Rk N w 6 sv (xs.map snL)) (hN : N ≤ w.heap.size) (hl : xs.length ≤ 100000) (hg : w.cell? ⟨g, 4, none⟩ = some sv) :
    Calls Try.prog 32 #[.pointer (some ⟨g, 0, none⟩), .int .u32 a] w fun e w' => ∃ r : Int, e = .returned (.int .i64 r) ∧ Hid (atB xs a r) ∧ Below w.heap.size w w' := by
  have HS : Hid (∀ q u, Below w.heap.size w u → u.cell? ⟨q, 0, none⟩ = some (.int .u32 a) → Calls Try.prog 46 #[sv, .func (.func 47) #[] #[.pointer (some ⟨q, 0, none⟩)]] u fun e w' => ∃ r : Int, e = .returned (.int .i64 r) ∧ Hid (atB xs a r) ∧ Below u.heap.size u w') := fun q u hu hq =>
    snIndex_any N sv xs a q u (h.below hu hN) (Nat.le_trans hN hu.size) hl hq
  obtain ⟨ao, cap, hsv, -, -⟩ := h.sn
  have hg2 : ∀ o, (w.alloc o).cell? ⟨g, 4, none⟩ = some sv := fun o => by
    rw [World.cell?_alloc_lt _ _ _ (World.block_lt_of_cell? _ _ hg)]; exact hg
  clear h hN hl
  subst hsv
  go_enter Try.func32, Try.ntmps32
  go_wp2_with fail
  refine (HS.out _ _ ((Below.refl _ _).alloc (Nat.le_refl _) _) (by simp)).mono ?_
  rintro e w1 ⟨r, rfl, hr, hb⟩
  go_wp2_with fail
  go_ret
  exact ⟨r, rfl, hr, ((Below.refl _ _).alloc (Nat.le_refl _) _).trans (hb.mono (by simp))⟩
/-- who was heard longest ago -/
def olB (xs : List Sn) (r : Int) : Prop := ∃ i, ∃ h : i < xs.length, r = (i : Int) ∧ ∀ j (hj : j < xs.length), xs[i].turn ≤ xs[j].turn
set_option maxHeartbeats 1000000 in
theorem oldest_any (N : Nat) (sv : Value) (ks : List Sn) (g : Nat) (w : World) (h : Rk N w 6 sv (ks.map snL)) (hN : N ≤ w.heap.size) (hl : ks.length ≤ 100000) (hp : 0 < ks.length) (hg : w.cell? ⟨g, 4, none⟩ = some sv) :
    Calls Try.prog 48 #[.pointer (some ⟨g, 0, none⟩)] w fun e w' => ∃ r : Int, e = .returned (.int .i64 r) ∧ Hid (olB ks r) ∧ Below w.heap.size w w' := by
  obtain ⟨ao, cap, hsv, hc, hcell⟩ := h.sn
  subst hsv
  obtain ⟨L, hL⟩ : ∃ L, L = ks.length := ⟨_, rfl⟩
  rw [← hL] at hg
  have HL : Hid (L = ks.length ∧ 0 < ks.length) := ⟨hL, hp⟩
  have l1 : (L : Int) ≤ 100000 := by omega
  have HH : Hid ((∀ i (hi : i < ks.length), ∃ ad, ao = some ad ∧ ad.block < N ∧ ∀ j u, (snL ks[i])[j]? = some u → w.cell? ((ad.add (i * 6)).add j) = some u) ∧ N ≤ w.heap.size ∧ w.cell? ⟨g, 4, none⟩ = some (.slice ao L cap)) := ⟨hcell, hN, hg⟩
  clear hcell hN hc hl hL h hp
  go_enter Try.func48, Try.ntmps48
  go_wp2
  clear hg
  go_loopw [3, 11] (fun o i wr => ∃ (k q : Nat), i = .int .i64 (k : Int) ∧ o = .int .i64 (q : Int) ∧ (k : Int) ≤ L ∧ (q : Int) < L ∧ Hid (∀ hq : q < ks.length, ∀ j (hj : j < ks.length), j < k → ks[q].turn ≤ ks[j].turn) ∧ Hid (Below w.heap.size w wr)) (fun _ i _ => (L - intOf i).toNat)
  case atStart => exact ⟨0, 0, rfl, rfl, by omega, by have := HL.out; omega, fun _ j _ hj => absurd hj (by omega), Below.refl _ _⟩
  case round =>
    obtain ⟨k, q, rfl, rfl, hk, hq, hA, hB⟩ := hrel
    have hqx : q < ks.length := by have := HL.out.1; omega
    by_cases hlt : (k : Int) < L
    · have hkx : k < ks.length := by have := HL.out.1; omega
      obtain ⟨ad, g1, g2, g3⟩ := HH.out.1 k hkx
      obtain ⟨ad', g1', _, g3'⟩ := HH.out.1 q hqx
      obtain rfl : ad = ad' := by rw [g1] at g1'; exact Option.some.inj g1'
      have hix : ∀ w, Sem.run Try.prog (Instr.indexAt 64 (.slice ao L cap) (.int .i64 (k : Int))) w = .ok (.pointer (some (ad.add (k * 6)))) w := ix_sn L cap k g1 hlt
      have hiq : ∀ w, Sem.run Try.prog (Instr.indexAt 64 (.slice ao L cap) (.int .i64 (q : Int))) w = .ok (.pointer (some (ad.add (q * 6)))) w := ix_sn L cap q g1 hq
      have HC : Hid (∀ j u, (snL ks[k])[j]? = some u → wr.cell? ((ad.add (k * 6)).add j) = some u) := fun j u hu => by
        rw [hB.out.cell (p := (ad.add (k * 6)).add j) (by rw [add_block, add_block]; have := HH.out.2.1; omega)]
        exact g3 j u hu
      have hcg : ∀ o, (wr.alloc o).cell? ⟨g, 4, none⟩ = some (.slice ao L cap) := fun o => by
        have hlt' := World.block_lt_of_cell? _ _ HH.out.2.2
        rw [World.cell?_alloc_lt _ _ _ (Nat.lt_of_lt_of_le hlt' hB.out.size), hB.out.cell (p := ⟨g, 4, none⟩) hlt']; exact HH.out.2.2
      obtain ⟨Tq, hTq⟩ : ∃ T, T = ks[q].turn := ⟨_, rfl⟩
      have HTq : Hid (Tq = ks[q].turn) := hTq
      have hcq : ∀ o, (wr.alloc o).cell? ((ad.add (q * 6)).add 5) = some (.int .i64 Tq) := fun o => by
        have hlt' : ((ad.add (q * 6)).add 5).block < w.heap.size := by rw [add_block, add_block]; have := HH.out.2.1; omega
        rw [World.cell?_alloc_lt _ _ _ (Nat.lt_of_lt_of_le hlt' hB.out.size), hB.out.cell (p := (ad.add (q * 6)).add 5) hlt', hTq]
        exact g3' 5 _ rfl
      obtain ⟨A, hA0⟩ : ∃ A, A = ad.add (k * 6) := ⟨_, rfl⟩
      obtain ⟨Aq, hAq⟩ : ∃ A, A = ad.add (q * 6) := ⟨_, rfl⟩
      rw [← hA0] at hix HC
      rw [← hAq] at hiq hcq
      rw [show Aq.add 5 = ⟨Aq.block, Aq.off + 5, none⟩ from add5 Aq] at hcq
      have HE : Hid (∀ x, x = ks[k] → ks[k].turn = x.turn) := fun x hx => by rw [hx]
      obtain ⟨E, hE⟩ : ∃ E, E = ks[k] := ⟨_, rfl⟩
      have HT : Hid (ks[k].turn = E.turn) := HE.out E hE
      rw [← hE] at HC
      have HB1 : Hid (∀ o, Below w.heap.size w (wr.alloc o)) := fun o => hB.out.alloc hB.out.size o
      clear hA0 hAq g1 g1' g3 g3' hE HE hTq
      obtain ⟨x0, x1, x2, x3, x4, x5⟩ := E
      unfold snL at HC
      simp only at HC HT
      by_cases hless : x5 < Tq
      all_goals
        go_wp2_with (refine step_ldat 75 _ (by rfl) (by rfl) A (by rfl) [.int .u32 x0, .int .i64 x1, .int .i64 x2, .int .i64 x3, .int .i64 x4, .int .i64 x5] _ Try.underlying75 (by rfl) sn_info ?_ ?_; exact HC.out)
        go_quiet (fail)
        go_wp2
      · refine ⟨⟨k + 1, k, by go_num, rfl, by omega, hlt, fun _ j hj hjk => ?_, below_drewN (HB1.out _) _⟩, by simp [intOf]; omega⟩
        have h1 := HT.out; have h2 := HTq.out
        by_cases hj2 : j < k
        · have h3 := hA.out hqx j hj hj2; omega
        · have : j = k := by omega
          subst this
          exact Int.le_refl _
      · refine ⟨⟨k + 1, q, by go_num, rfl, by omega, hq, fun _ j hj hjk => ?_, below_drewN (HB1.out _) _⟩, by simp [intOf]; omega⟩
        have h1 := HT.out; have h2 := HTq.out
        by_cases hj2 : j < k
        · exact hA.out hqx j hj hj2
        · have : j = k := by omega
          subst this
          omega
    · go_wp2
      go_ret
      exact ⟨_, rfl, ⟨q, hqx, rfl, fun j hj => hA.out hqx j hj (by have := HL.out.1; omega)⟩, hB.out⟩
end Go.Proofs.Ytmgphfdieekpdaa
