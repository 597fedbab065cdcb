/- ClusterTurned: in whatever order. -/
import Derived.Test.YtahbakhbbiiieaaClPg
import Derived.Test.YtahbakhbbiiieaaClC0
import Derived.Test.YtahbakhbbiiieaaClC1
namespace Go.Proofs.Ytahbakhbbiiieaa
open Go Go.RowKit Go.Sort
set_option linter.unusedVariables false
set_option maxRecDepth 20000 in
theorem eq_rs (r : Rs4) (u : World) : (binOp .eql 35 (.agg (rsL r).toArray) (.agg (rsL r).toArray)).run Try.prog u = .ok (.bool true) u := by
  obtain ⟨a, b, c, d, e⟩ := r
  unfold rsL
  go_simp
theorem ix_I {ao : Option Addr} {ad : Addr} (n cap k : Nat) (h : ao = some ad) (hk : (k : Int) < n) (w : World) : Sem.run Try.prog (Instr.indexAt 40 (.slice ao n cap) (.int .i64 (k : Int))) w = .ok (.pointer (some (ad.add k))) w := by
  have u' := Try.underlying40
  have c3 : Try.prog.cellsOf 3 = 1 := by kernel_rfl
  have h0 : (0 : Int) ≤ k := Int.natCast_nonneg k
  subst h
  go_simp
/-- the picks, read -/
theorem picks_read {N : Nat} {w : World} {v : Value} {l : List Int} (h : Rk N w 1 v (l.map fun n => [Value.int .i64 n])) : ∃ ao cap, v = .slice ao l.length cap ∧ ∀ w' : World, (∀ p : Addr, p.block < N → w'.cell? p = w.cell? p) → ∀ (i : Nat) z, l[i]? = some z → ∃ ad, ao = some ad ∧ w'.cell? (ad.add i) = some (.int .i64 z) := by
  obtain ⟨ao, cap, hv, hc, hr⟩ := h
  rw [List.length_map] at hv hr hc
  refine ⟨ao, cap, hv, fun w' hw i z hi => ?_⟩
  have hl : i < l.length := by
    rcases Nat.lt_or_ge i l.length with h | h
    · exact h
    · rw [List.getElem?_eq_none h] at hi; cases hi
  obtain ⟨ad, k1, k2, k3⟩ := hr i hl
  refine ⟨ad, k1, ?_⟩
  have := k3 0 (.int .i64 z) (by
    rw [List.getD_eq_getElem?_getD, List.getElem?_map, hi]; rfl)
  rw [Nat.mul_one, Nat.add_zero] at this
  rw [hw _ (by rw [add_block]; exact k2)]
  exact this
/-- rows that the call has made: where they lie -/
theorem or_some {w : World} {B : Nat} {e : TypeId} {k : Nat} {ao : Option Addr} {n cap : Nat} {rows : List (List Value)} (h : OR w B e k (.slice ao n cap) rows) (h0 : 0 < n) : ∃ g, ao = some ⟨g, 0, none⟩ ∧ B ≤ g ∧ g < w.heap.size := by
  rcases h.row.2 with ⟨e0, e1⟩ | ⟨g, cap', cur, e0, hb, hg, _⟩
  · injection e0 with _ e2 _
    omega
  · injection e0 with e1 _ _
    refine ⟨g, e1, hb, ?_⟩
    rcases Nat.lt_or_ge g w.heap.size with h' | h'
    · exact h'
    · rw [Array.getElem?_eq_none h'] at hg; cases hg
set_option maxRecDepth 20000 in
set_option maxHeartbeats 1000000 in
theorem few_ra (v : Value) (l : List Cn) (w : World) (N : Nat) (h : Rk N w 7 v (l.map cnL)) (hl : l.length ≤ maxLen) (hra : Ra v) : Calls Try.prog 6 #[v] w fun e w' => ∃ u, e = .returned u ∧ Hid (Rk N w 7 u ((l.take 300).map cnL) ∧ Ra u) ∧ w' = w := by
  obtain ⟨ao, cap, hv, hcap⟩ := rk_form h
  obtain ⟨n, hn⟩ : ∃ n, l.length = n := ⟨_, rfl⟩
  rw [hn] at hv hl hcap
  subst hv
  obtain ⟨m, hm⟩ : ∃ m : Nat, m = min n 300 := ⟨_, rfl⟩
  have hmin : min (n : Int) 300 = (m : Int) := by omega
  have hT0 : l.take m = l.take 300 := by rw [hm, ← hn]; exact take_300 l
  cases ao with
  | none =>
    have hc0 := hra _ _ rfl
    subst hc0
    have hn0 : n = 0 := by omega
    subst hn0
    have hm0 : m = 0 := by omega
    subst hm0
    have HK : Hid (Rk N w 7 (.slice none 0 0) ((l.take 300).map cnL) ∧ Ra (.slice none 0 0)) := ⟨by rw [List.length_eq_zero_iff.1 hn] at h ⊢; exact h, fun a b e => by injection e with _ _ e; exact e.symm⟩
    clear h hl hcap hn hm hra hT0
    go_enter Try.func6, Try.ntmps6
    refine post_hid fun Q hQ => ?_
    go_wp2_with fail
    rw [hQ.out]
    go_ret
    exact ⟨_, rfl, HK.out, rfl⟩
  | some ad =>
    obtain ⟨ao1, cap1, hrun, hk1, hne, _⟩ := csl_take h m (by omega)
    rw [hT0] at hk1
    have HK : Hid (Rk N w 7 (.slice ao1 m cap1) ((l.take 300).map cnL) ∧ Ra (.slice ao1 m cap1)) := ⟨hk1, fun a b e => by injection e with e _ _; exact absurd e (hne (by simp))⟩
    clear h hl hcap hn hm hk1 hT0 hne hra
    go_enter Try.func6, Try.ntmps6
    refine post_hid fun Q hQ => ?_
    go_wp2_with fail
    rw [hQ.out]
    go_ret
    exact ⟨_, rfl, HK.out, rfl⟩
/-- two places' contents changed: what the walk wants at each step -/
theorem or_swap {w : World} {B g n cap : Nat} {ys : List Cn} (h : OR w B 27 7 (.slice (some ⟨g, 0, none⟩) n cap) (ys.map cnL)) (hgl : g < w.heap.size) (I J k : Nat) (hI : I < ys.length) (hJ : J < ys.length) (hk : k = 7) :
    ∃ (cI cJ : List Value) (W1 W2 : World) (ys' : List Cn), Sem.run Try.prog (loadCellsFrom ⟨g, I * k, none⟩ 0 k #[]) w.drew = .ok cI.toArray w.drew ∧ Sem.run Try.prog (loadCellsFrom ⟨g, J * k, none⟩ 0 k #[]) w.drew = .ok cJ.toArray w.drew ∧
      Sem.run Try.prog (storeCells ⟨g, I * k, none⟩ cJ 0) w.drew = .ok () W1 ∧ Sem.run Try.prog (storeCells ⟨g, J * k, none⟩ cI 0) W1 = .ok () W2 ∧ cI.length = k ∧ cJ.length = k ∧
      OR W2 B 27 7 (.slice (some ⟨g, 0, none⟩) n cap) (ys'.map cnL) ∧ ys'.Perm ys ∧ w.grownBy W2 (some g) := by
  haveI : Inhabited Cn := ⟨zCn⟩
  subst hk
  have hH := h.holdsK (fun _ => rfl) (by decide)
  have R : Proofs.RowK cnL 7 w g 0 ys.toArray := ⟨fun _ => rfl, cnL_one, hH, hgl⟩
  have hS := Proofs.SWK.start hH
  have hI' : I < ys.toArray.size := by simpa using hI
  have hJ' : J < ys.toArray.size := by simpa using hJ
  have hw := hS.swapped R I J hI' hJ'
  refine ⟨cnL ys.toArray[I]!, cnL ys.toArray[J]!, w.drew.setCells g (0 + I * 7) (cnL ys.toArray[J]!), (w.drew.setCells g (0 + I * 7) (cnL ys.toArray[J]!)).setCells g (0 + J * 7) (cnL ys.toArray[I]!), (Sort.swp ys.toArray I J).toList, ?_, ?_, ?_, ?_, rfl, rfl, ?_, swp_perm ys I J hI hJ, ?_⟩
  · have := hS.ld1 R rfl Try.prog I hI'
    rwa [Nat.zero_add] at this
  · have := hS.ld1 R rfl Try.prog J hJ'
    rwa [Nat.zero_add] at this
  · have := hS.st1 R rfl Try.prog I hI' ys.toArray[J]!
    rwa [Nat.zero_add] at this ⊢
  · have := hS.st2 R rfl Try.prog I J hI' hJ' ys.toArray[J]! ys.toArray[I]!
    rwa [Nat.zero_add, Nat.zero_add] at this ⊢
  all_goals
    obtain ⟨q, os, e⟩ := hw
    have hb := h.putRowK (q := q) (ys := (Sort.swp ys.toArray I J).toList) (fun _ => rfl) (by decide) (by rw [(swp_perm ys I J hI hJ).length_eq]) os
    rw [e]
    first | exact hb.1 | exact hb.2
set_option maxRecDepth 20000 in
set_option maxHeartbeats 8000000 in
theorem ClusterTurned_row (v pv : Value) (was : Int) (l : List Cn) (pk : List Int) (W : World) (h : Rk W.heap.size W 7 v (l.map cnL)) (ok : ∀ c ∈ l, okC c) (hl : l.length ≤ maxLen) (hra : Ra v) (hp : Rk W.heap.size W 1 pv (pk.map fun n => [Value.int .i64 n])) (okp : ∀ a ∈ pk, -9223372036854775808 ≤ a ∧ a ≤ 9223372036854775807) (hpl : pk.length ≤ maxLen) (hwas : -9223372036854775808 ≤ was ∧ was ≤ 9223372036854775807) :
    Calls Try.prog 4 #[v, pv, .int .i64 was] W fun e w' => e = .returned (.bool true) ∧ Below W.heap.size W w' := by
  have HF : Hid (∀ u, Below W.heap.size W u → Calls Try.prog 6 #[v] u fun e w' => ∃ x, e = .returned x ∧ Hid (Rk W.heap.size u 7 x ((l.take 300).map cnL) ∧ Ra x) ∧ w' = u) := fun u hb => few_ra v l u W.heap.size (h.below hb (Nat.le_refl _)) hl hra
  have HOK : Hid (∀ c ∈ l.take 300, okC c) := fun c hc => ok c (List.mem_of_mem_take hc)
  obtain ⟨L, hL⟩ : ∃ L, l.take 300 = L := ⟨_, rfl⟩
  have hLl : L.length ≤ 300 := by rw [← hL, List.length_take]; omega
  rw [hL] at HF HOK
  obtain ⟨po, pc, hpv, hpr⟩ := picks_read hp
  obtain ⟨m, hm⟩ : ∃ m, pk.length = m := ⟨_, rfl⟩
  rw [hm] at hpv
  subst hpv
  have HPK : Hid ((∀ u, Below W.heap.size W u → ∀ (i : Nat) z, pk[i]? = some z → ∃ ad, po = some ad ∧ u.cell? (ad.add i) = some (.int .i64 z)) ∧ pk.length = m ∧ (∀ a ∈ pk, -9223372036854775808 ≤ a ∧ a ≤ 9223372036854775807)) := ⟨fun u hb => hpr u (below_cells hb (Nat.le_refl _)), hm, okp⟩
  clear h ok hl hL hra hp okp hpl hwas hpr hm
  go_enter Try.func4, Try.ntmps4
  refine post_hid fun Q hQ => ?_
  go_upto_region 3 with (go_at_call 5; refine (shown_any W).mono ?_; rintro e w1 ⟨rfl, hb1⟩)
  have HB1 : Hid (Below W.heap.size W w1) := hb1
  have HFc := HF.out w1 hb1
  clear hb1 HF
  have HLl : Hid (L.length ≤ 300) := hLl
  clear hLl
  go_upto_region 4 with (first
    | (go_at_call 6; refine HFc.mono ?_; rintro e w2 ⟨x, rfl, HU, e2⟩; have e2' := e2.symm; clear e2; subst e2')
    | (at_builtin; refine wpList_appk tiC rfl _ _ rfl w1.heap.size W.heap.size (.slice none 0 0) x [] (L.map cnL) (by rfl) (by rfl) (OR.nil _ _ _ _) HU.out.1 HU.out.2 (fun y hy => by obtain ⟨c, _, rfl⟩ := List.mem_map.1 hy; rfl) (fun y hy u hu => by obtain ⟨c, _, rfl⟩ := List.mem_map.1 hy; exact cnL_one c u hu) (by have := HLl.out; simp only [List.length_map, List.length_nil, maxLen]; omega) (by have := HLl.out; simp only [List.length_map, List.length_nil]; omega) (Nat.le_refl _) ?_; intro v2 w3 o1 o2 _; have O1 : Hid (OR w3 w1.heap.size 27 7 v2 (L.map cnL) ∧ Below w1.heap.size w1 w3) := (⟨o1, below_own o2 (Nat.le_refl _) (fun b hb => by cases hb)⟩); clear o1 o2; obtain ⟨ao2, c2, hy⟩ := or_len O1.out.1; obtain ⟨n, hn⟩ : ∃ n, (L.map cnL).length = n := ⟨_, rfl⟩; rw [hn] at hy; subst hy))
  have HN : Hid (L.length = n ∧ (n : Int) ≤ 300) := by
    have := HLl.out
    rw [List.length_map] at hn
    exact ⟨hn, by omega⟩
  have hn3 : (n : Int) ≤ 300 := HN.out.2
  clear hn HU HFc
  go_wp2_with fail
  go_loopw [7, 18] (fun _ i wr => ∃ k : Nat, i = .int .i64 k ∧ (k : Int) ≤ n ∧ Hid (OR wr w1.heap.size 27 7 (.slice ao2 n c2) ((nm k L).map cnL) ∧ Below w1.heap.size w1 wr)) (fun _ i _ => n - (intOf i).toNat)
  case atStart => exact ⟨0, rfl, by omega, by rw [nm_zero]; exact O1.out⟩
  case round =>
    obtain ⟨k, rfl, hk, HB⟩ := hrel
    by_cases hlt : (k : Int) < n
    · have hkl : k < L.length := by have := HN.out.1; omega
      obtain ⟨c, hc⟩ : ∃ c, L[k]? = some c := ⟨_, List.getElem?_eq_getElem hkl⟩
      obtain ⟨g, hg, hg1, hg2⟩ := or_some HB.out.1 (by omega)
      subst hg
      have hsz : k < ((nm k L).map cnL).length := by rw [List.length_map, nm_len]; exact hkl
      have hgd : ((nm k L).map cnL).getD k [] = cnL c := by rw [List.getD_eq_getElem?_getD, List.getElem?_map, nm_at hc]; rfl
      have hcell := HB.out.1.at k hsz 0 (.int .i64 c.id) (by rw [hgd]; rfl)
      have f0 : wr.frozen? ⟨g, k * 7, none⟩ = false := HB.out.1.frozen _
      have c0 : wr.cell? ⟨g, k * 7, none⟩ = some (.int .i64 c.id) := by
        have e5 : (⟨g, k * 7, none⟩ : Addr).add 0 = ⟨g, k * 7, none⟩ := rfl
        rw [e5] at hcell
        exact hcell
      have HS : Hid (OR (wr.setCell ⟨g, k * 7, none⟩ (.int .i64 ((k : Int) + 1))) w1.heap.size 27 7 (.slice (some ⟨g, 0, none⟩) n c2) ((nm (k + 1) L).map cnL) ∧ Below w1.heap.size w1 (wr.setCell ⟨g, k * 7, none⟩ (.int .i64 ((k : Int) + 1)))) := by
        have h1 := HB.out.1.cellSet0 hsz 0 (by decide) (.int .i64 ((k : Int) + 1))
        rw [Nat.add_zero, hgd] at h1
        refine ⟨?_, HB.out.2.grown h1.2 HB.out.2.size (fun q hq => by injection hq with hq; omega)⟩
        have e6 : (cnL c).set 0 (.int .i64 ((k : Int) + 1)) = cnL { c with id := ((k + 1 : Nat) : Int) } := rfl
        rw [e6, ← List.map_set, nm_set hc] at h1
        exact h1.1
      clear hc hg1 hg2 hsz hgd hcell hkl HB
      go_wp2_with fail
      go_roundw
      case rel => exact ⟨k + 1, by go_num, by omega, HS.out⟩
      case measure => simp [intOf]; omega
    · have hkn : k = n := by omega
      subst hkn
      obtain ⟨Ln, hLn⟩ : ∃ Ln, nm k L = Ln := ⟨_, rfl⟩
      have HLn : Hid (Ln.length = k ∧ Unl Ln ∧ ∀ c ∈ Ln, okC c) := by
        rw [← hLn]
        exact ⟨by rw [nm_len]; exact HN.out.1, nm_unl L k (by rw [HN.out.1]; exact Nat.le_refl _), nm_ok HOK.out (by have := HLl.out; omega) k⟩
      rw [hLn] at HB
      clear hLn hk hlt O1 HOK HLl
      have HB' : Hid (OR wr w1.heap.size 27 7 (.slice ao2 k c2) (Ln.map cnL) ∧ Below w1.heap.size w1 wr) := HB.out
      clear HB
      have HKb : Hid ((k : Int) ≤ 300) := HN.out.2
      go_upto_region 10 with (first
        | (at_builtin; refine wpList_appk tiC rfl _ _ rfl wr.heap.size wr.heap.size (.slice none 0 0) (.slice ao2 k c2) [] (Ln.map cnL) (by rfl) (by rfl) (OR.nil _ _ _ _) HB'.out.1.rk HB'.out.1.ra (fun y hy => by obtain ⟨c, _, rfl⟩ := List.mem_map.1 hy; rfl) (fun y hy u hu => by obtain ⟨c, _, rfl⟩ := List.mem_map.1 hy; exact cnL_one c u hu) (by have := HKb.out; have := HLn.out.1; simp only [List.length_map, List.length_nil, maxLen]; omega) (by have := HKb.out; have := HLn.out.1; simp only [List.length_map, List.length_nil]; omega) (Nat.le_refl _) ?_; intro v3 w5 o1 o2 _; have O3 : Hid (OR w5 wr.heap.size 27 7 v3 (Ln.map cnL) ∧ Below wr.heap.size wr w5) := (⟨o1, below_own o2 (Nat.le_refl _) (fun b hb => by cases hb)⟩); clear o1 o2; obtain ⟨ao3, c3, hy⟩ := or_len O3.out.1; have hz : (Ln.map cnL).length = k := (by rw [List.length_map]; exact HLn.out.1); rw [hz] at hy; clear hz; subst hy))
      have HD : Hid (∀ b, (Value.slice ao2 k c2).ownBlock = some b → b < wr.heap.size) := fun b hb => (HB'.out.1.ownlt b hb).2
      have HB5 : Hid (∃ ys : List Cn, OR w5 wr.heap.size 27 7 (.slice ao3 k c3) (ys.map cnL) ∧ ys.Perm Ln ∧ OR w5 w1.heap.size 27 7 (.slice ao2 k c2) (Ln.map cnL) ∧ Below w1.heap.size w1 w5) := ⟨Ln, O3.out.1, List.Perm.refl _, HB'.out.1.below O3.out.2 (Nat.le_refl _), below_thru HB'.out.2 O3.out.2⟩
      have HW1 : Hid (w1.heap.size ≤ wr.heap.size) := HB'.out.2.size
      clear O3 HB'
      obtain ⟨B3, hB3⟩ : ∃ B3, wr.heap.size = B3 := ⟨_, rfl⟩
      rw [hB3] at HD HB5 HW1
      clear hB3
      go_wp2_with fail
      go_loopw [9, 10, 32] (fun _ _ i wq => ∃ j : Nat, i = .int .i64 j ∧ (j : Int) ≤ k ∧ Hid (∃ ys : List Cn, OR wq B3 27 7 (.slice ao3 k c3) (ys.map cnL) ∧ ys.Perm Ln ∧ OR wq w1.heap.size 27 7 (.slice ao2 k c2) (Ln.map cnL) ∧ Below w1.heap.size w1 wq)) (fun _ _ i _ => k - (intOf i).toNat)
      case atStart => exact ⟨0, rfl, by omega, HB5.out⟩
      case round =>
        obtain ⟨j, rfl, hj, HB⟩ := hrel
        by_cases hlj : (j : Int) < k
        · by_cases hjm : (j : Int) < m
          · obtain ⟨z, hz⟩ : ∃ z, pk[j]? = some z := ⟨_, List.getElem?_eq_getElem (by have := HPK.out.2.1; omega)⟩
            obtain ⟨ys, y1, y2, y3, y4⟩ := HB.out
            obtain ⟨ad, p1, p2⟩ := HPK.out.1 wr (below_thru HB1.out y4) j z hz
            have hixp := ix_I m pc j p1 hjm
            obtain ⟨g, hg, hg1, hg2⟩ := or_some y1 (by omega)
            subst hg
            have hzb := HPK.out.2.2 z (List.mem_of_getElem? hz)
            obtain ⟨Z1, hZ1⟩ : ∃ Z, z.tmod (k : Int) = Z := ⟨_, rfl⟩
            have bZ1 : -(k : Int) < Z1 ∧ Z1 < k := by
              rw [← hZ1]
              exact ⟨Int.lt_tmod_of_pos z (by omega), Int.tmod_lt_of_pos z (by omega)⟩
            obtain ⟨Z2, hZ2⟩ : ∃ Z, Z1 + (k : Int) = Z := ⟨_, rfl⟩
            obtain ⟨J, hJ⟩ : ∃ J : Nat, Z2.tmod (k : Int) = (J : Int) := ⟨(Z2 % k).toNat, by
              have h1 := Int.emod_nonneg Z2 (show (k : Int) ≠ 0 by omega)
              rw [Int.tmod_eq_emod_of_nonneg (by omega)]; omega⟩
            have hJk : J < k := by
              have := Int.tmod_lt_of_pos Z2 (show (0 : Int) < k by omega)
              omega
            have hyl : ys.length = k := by rw [y2.length_eq]; exact HLn.out.1
            obtain ⟨kk, hkk⟩ : ∃ kk : Nat, kk = 7 := ⟨_, rfl⟩
            obtain ⟨cI, cJ, V1, V2, ys', l1, l2, s1, s2, e1, e2, q1, q2, q3⟩ := or_swap y1 hg2 j J kk (by omega) (by omega) hkk
            have aE : ∀ w, (isAgg 27).run Try.prog w = .ok true w := Try.isAgg27
            have zE : ∀ w, (Go.sizeOf 27).run Try.prog w = .ok kk w := by rw [hkk]; exact Try.sizeOf27
            have HW : Hid (∃ ys : List Cn, OR V2 B3 27 7 (.slice (some ⟨g, 0, none⟩) k c3) (ys.map cnL) ∧ ys.Perm Ln ∧ OR V2 w1.heap.size 27 7 (.slice ao2 k c2) (Ln.map cnL) ∧ Below w1.heap.size w1 V2) := by
              refine ⟨ys', q1, q2.trans y2, ⟨y3.row.kept q3 ?_, y3.len⟩, y4.grown q3 y4.size (fun q hq => by injection hq with hq; have := HW1.out; omega)⟩
              cases hv : (Value.slice ao2 k c2).ownBlock with
              | none => exact .inl rfl
              | some b => exact .inr (fun e => by injection e with e; have := HD.out b hv; omega)
            have lI : (j : Int) < k := hlj
            have lJ : (J : Int) < k := by omega
            have hk0 : ((k : Int) == 0) = false := by simp; omega
            obtain ⟨u1, u2⟩ : wrap64 (Z1 + (k : Int)) = Z2 ∧ IntKind.i64.wrap (Z1 + (k : Int)) = Z2 := by
              have hb := HKb.out
              have e : IntKind.i64.wrap (Z1 + (k : Int)) = Z2 := by rw [IntKind.wrap_i64]; omega
              exact ⟨by rw [← IntWalk.i64_left]; exact e, e⟩
            obtain ⟨u3, u4⟩ : wr.drew.cell? (ad.add j) = some (.int .i64 z) ∧ True := ⟨p2, trivial⟩
            clear u3 u4
            clear hz hzb p1 hg1 hg2 bZ1 hZ2 hJk hyl hkk q1 q2 q3 y1 y2 y3 y4 HB
            go_wp2_with fail
            clear HN HLn HPK HKb HB1 HD HW1 p2 hixp hZ1 hJ u1 u2 hk0
            have mixed : Try.prog.follows .mixedOrders = true := by kernel_rfl
            refine wp_region_noPanic ?_
            go_big_region_o
            all_goals
              refine NoPanic.normal ?_
              go_wp2_with fail
              go_roundw
              case rel => exact ⟨j + 1, by go_num, by omega, HW.out⟩
              case measure => simp [intOf]; omega
          · go_wp2_with fail
            go_roundw
            case rel => exact ⟨j + 1, by go_num, by omega, HB.out⟩
            case measure => simp [intOf]; omega
        · obtain ⟨ys, y1, y2, y3, y4⟩ := HB.out
          have hp : Ln.Perm ys := y2.symm
          have HE : Hid (OR wr B3 27 7 (.slice ao3 k c3) (ys.map cnL) ∧ OR wr w1.heap.size 27 7 (.slice ao2 k c2) (Ln.map cnL) ∧ Below W.heap.size W wr ∧ clu ys = clu Ln ∧ mit ys was = mit Ln was ∧ (∀ c ∈ ys, okC c) ∧ Ln.length ≤ 300 ∧ ys.length ≤ 300 ∧ ∀ c ∈ Ln, okC c) := by
            have hl := HLn.out.1
            have hkb := HKb.out
            exact ⟨y1, y3, below_thru HB1.out y4, (clu_perm hp HLn.out.2.1).symm, (mit_perm was hp HLn.out.2.1).symm, fun c hc => HLn.out.2.2 c (y2.mem_iff.1 hc), by omega, by rw [y2.length_eq]; omega, HLn.out.2.2⟩
          clear hp y1 y2 y3 y4 HB HLn HD HW1
          obtain ⟨mr, hmr⟩ : ∃ mr, mit Ln was = mr := ⟨_, rfl⟩
          have K1 : Hid (∀ u, Below wr.heap.size wr u → Calls Try.prog 7 #[.slice ao2 k c2] u fun e w' => ∃ y, e = .returned y ∧ Hid (OR w' u.heap.size 27 7 y ((clu Ln).map cnL)) ∧ Hid (Below u.heap.size u w')) := fun u hb => cluster_any _ Ln u u.heap.size (HE.out.2.1.below hb (Nat.le_refl _)).rk (Nat.le_refl _) (by have := HE.out.2.2.2.2.2.2.1; omega) HE.out.2.2.2.2.2.2.2.2
          have K2 : Hid (∀ u, Below wr.heap.size wr u → Calls Try.prog 7 #[.slice ao3 k c3] u fun e w' => ∃ y, e = .returned y ∧ Hid (OR w' u.heap.size 27 7 y ((clu Ln).map cnL)) ∧ Hid (Below u.heap.size u w')) := fun u hb => by
            have := cluster_any _ ys u u.heap.size (HE.out.1.below hb (Nat.le_refl _)).rk (Nat.le_refl _) (by have := HE.out.2.2.2.2.2.2.2.1; omega) HE.out.2.2.2.2.2.1
            rw [HE.out.2.2.2.1] at this
            exact this
          have K3 : Hid (∀ u, Below wr.heap.size wr u → Calls Try.prog 16 #[.slice ao2 k c2, .int .i64 was] u fun e w' => e = .returned (.agg (rsL mr).toArray) ∧ Below u.heap.size u w') := fun u hb => by
            rw [← hmr]
            exact mitigate_any _ Ln was u u.heap.size (HE.out.2.1.below hb (Nat.le_refl _)).rk (Nat.le_refl _) (by have := HE.out.2.2.2.2.2.2.1; omega) HE.out.2.2.2.2.2.2.2.2
          have K4 : Hid (∀ u, Below wr.heap.size wr u → Calls Try.prog 16 #[.slice ao3 k c3, .int .i64 was] u fun e w' => e = .returned (.agg (rsL mr).toArray) ∧ Below u.heap.size u w') := fun u hb => by
            have := mitigate_any _ ys was u u.heap.size (HE.out.1.below hb (Nat.le_refl _)).rk (Nat.le_refl _) (by have := HE.out.2.2.2.2.2.2.2.1; omega) HE.out.2.2.2.2.2.1
            rw [HE.out.2.2.2.2.1, hmr] at this
            exact this
          have hcl : (clu Ln).length ≤ 1000000 := by
            have h := clN_len 10 ((St.st ltc Ln).take 10)
            unfold clu
            rw [List.length_take] at h
            omega
          have HC : Hid ((clu Ln).length ≤ 1000000) := hcl
          have heq := eq_rs mr
          clear hmr hcl
          go_wp2_with (first
            | (go_at_call 7; first
              | ((with_reducible refine (K1.out _ (Below.refl _ _)).mono ?_); rintro e w6 ⟨a6, rfl, h6, b6⟩)
              | ((with_reducible refine (K2.out _ b6.out).mono ?_); rintro e w7 ⟨a7, rfl, h7, b7⟩; have H7 : Hid (Below wr.heap.size wr w7 ∧ Rk w7.heap.size w7 7 a6 ((clu Ln).map cnL) ∧ Rk w7.heap.size w7 7 a7 ((clu Ln).map cnL)) := (⟨below_thru b6.out b7.out, (h6.out.below b7.out (Nat.le_refl _)).rk, h7.out.rk⟩)))
            | (go_at_call 12; refine (same_any a6 a7 (clu Ln) _ _ _ H7.out.2.1 H7.out.2.2 HC.out).mono ?_; rintro e w8 ⟨rfl, h8⟩; have H8 : Hid (Below wr.heap.size wr w8) := (below_thru H7.out.1 h8); clear h8)
            | (go_at_call 16; first
              | ((with_reducible refine (K3.out _ H8.out).mono ?_); rintro e w9 ⟨rfl, h9⟩; have H9 : Hid (Below wr.heap.size wr w9) := (below_thru H8.out h9))
              | ((with_reducible refine (K4.out _ H9.out).mono ?_); rintro e w10 ⟨rfl, h10⟩; have H10 : Hid (Below wr.heap.size wr w10) := (below_thru H9.out h10))))
          rw [hQ.out]
          go_ret
          exact ⟨rfl, below_thru HE.out.2.2.1 H10.out⟩
end Go.Proofs.Ytahbakhbbiiieaa
