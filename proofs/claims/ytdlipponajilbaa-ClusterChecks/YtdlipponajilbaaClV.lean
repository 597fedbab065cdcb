/- slices.symMergeCmpFunc where one stands on the right. -/
import Derived.Test.YtdlipponajilbaaClU
namespace Go.Proofs.Ytdlipponajilbaa
open Go Go.RowKit Go.Sort Go.Shelf Go.Lib Go.Proofs
set_option linter.unusedVariables false
variable {α : Type} [Inhabited α] {enc : α → List Value} {w0 : World} {blk off : Nat} {d0 : Array α}
set_option maxHeartbeats 1000000 in
set_option maxRecDepth 100000 in
theorem symR_any (R : RowK enc 8 w0 blk off d0) (cf : α → α → Int) (hS : SWO (ltOf cf)) (hcmp : CmpLays Try.prog 40 #[] enc 8 cf blk off d0.size w0) (P U Z : List α) (y : α) (N a m b cap : Nat) (ha : a = P.length) (hm : m = a + U.length) (hU : 2 ≤ U.length) (hb : b = m + 1) (hV : St.So (ltOf cf) U) (hN : N = d0.size) (hL : N = b + Z.length) (hsz : N ≤ 1000000)
    (W : World) (h : SWK enc 8 w0 blk off (P ++ (U ++ y :: Z)).toArray W) :
    Calls Try.prog 81 #[.slice (some ⟨blk, off, none⟩) N cap, .int .i64 (a : Int), .int .i64 (m : Int), .int .i64 (b : Int), .func (.func 40) #[] #[]] W fun e w' => e = .returned (.tuple #[]) ∧ Hid (SWK enc 8 w0 blk off (P ++ (St.mg (ltOf cf) U [y] ++ Z)).toArray w') := by
  have HR : Hid (RowK enc 8 w0 blk off d0) := R
  obtain ⟨D, hD⟩ : ∃ D, D = (P ++ (U ++ y :: Z)).toArray := ⟨_, rfl⟩
  have HD : Hid (D.size = d0.size ∧ D[m]! = y ∧ ∀ i v, U[i]? = some v → D[a + i]! = v) := by
    subst hD
    refine ⟨by simp; omega, St.get_at _ (P ++ U) Z y m (by simp) (by simp; omega), fun i v hv => ?_⟩
    have hi : i < U.length := (List.getElem?_eq_some_iff.1 hv).1
    apply St.get_some
    rw [List.getElem?_append_right (by omega), show a + i - P.length = i from by omega, List.getElem?_append_left hi]
    exact hv
  have HP : Hid (D = (P ++ (U ++ y :: Z)).toArray ∧ a = P.length ∧ m = a + U.length ∧ b = m + 1 ∧ N = b + Z.length ∧ N = d0.size) := ⟨hD, ha, hm, hb, hL, hN⟩
  have HC : Hid (∀ (W : World) (i j n : Nat) (os : Array Obj), SWK enc 8 w0 blk off D W → Calls Try.prog 40 #[.agg (enc D[i]!).toArray, .agg (enc D[j]!).toArray] (grow (W.drewN n) os) fun e w' => e = .returned (.int .i64 (cf D[i]! D[j]!)) ∧ ∃ q os', w' = grow ((grow (W.drewN n) os).drewN q) os') := fun (W : World) (i j n : Nat) (os : Array Obj) h => by
    have := h.cmp (g := 40) (cb := #[]) hcmp HD.out.1 D[i]! D[j]! n os
    simpa using this
  have HS : Hid (St.So (ltOf cf) U ∧ SWO (ltOf cf)) := ⟨hV, hS⟩
  have H0 : Hid (SWK enc 8 w0 blk off D W) := by rw [hD]; exact h
  have z1 : (a : Int) + 2 ≤ m := by omega
  have z2 : (m : Int) + 1 = b := by omega
  have z3 : (b : Int) ≤ N := by omega
  have z4 : (N : Int) ≤ 1000000 := by omega
  have z5 : ¬ (m : Int) - a = 1 := by omega
  have z5b : ((m : Int) - a == 1) = false := by simpa using z5
  have z7 : (b : Int) - m = 1 := by omega
  have mixed : Try.prog.follows .mixedOrders = true := by kernel_rfl
  clear hD ha hm hb hU hV hN hL hsz h R hS hcmp
  go_enter Try.func81, Try.ntmps81
  go_wp2_with fail
  go_loopw [14, 15, 16] (fun v u _ wr => ∃ (i j : Nat), v = .int .i64 i ∧ u = .int .i64 j ∧ (a : Int) ≤ i ∧ (i : Int) ≤ j ∧ (j : Int) ≤ m ∧ Hid ((∀ v ∈ U.take (i - a), ltOf cf y v = false) ∧ (∀ v ∈ U.drop (j - a), ltOf cf y v = true) ∧ SWK enc 8 w0 blk off D wr)) (fun v u _ _ => (intOf u - intOf v).toNat)
  case atStart => exact ⟨a, m, rfl, rfl, by omega, by omega, by omega, ⟨(fun v hv => by rw [Nat.sub_self] at hv; simp at hv), (fun v hv => by rw [List.drop_of_length_le (by have := HP.out; omega)] at hv; cases hv), H0.out⟩⟩
  case round =>
    obtain ⟨i, j, rfl, rfl, hi, hij, hj, HB⟩ := hrel
    clear z5 z7
    by_cases hlt : (i : Int) < j
    · obtain ⟨hh, hhe⟩ : ∃ hh : Nat, hh = (i + j) / 2 := ⟨_, rfl⟩
      have k1 : (i : Int) ≤ hh := by omega
      have k2 : (hh : Int) < j := by omega
      have k3 : ((i : Int) + j) / 2 = hh := by omega
      have k4 : (hh : Int) < N := by omega
      have k5 : (m : Int) < N := by omega
      obtain ⟨u, hu⟩ : ∃ u, U[hh - a]? = some u := ⟨_, List.getElem?_eq_getElem (by have := HP.out; omega)⟩
      have hDu : D[hh]! = u := by have := HD.out.2.2 _ _ hu; rwa [show a + (hh - a) = hh from by omega] at this
      have hcg := fun n os => HC.out wr m hh n os HB.out.2.2
      rw [hDu, HD.out.2.1] at hcg
      obtain ⟨k, hk⟩ : ∃ k : Nat, k = 8 := ⟨_, rfl⟩
      obtain ⟨cu, hcu⟩ : ∃ c, c = enc u := ⟨_, rfl⟩
      obtain ⟨cy, hcy⟩ : ∃ c, c = enc y := ⟨_, rfl⟩
      have l1 : ∀ n os, Sem.run Try.prog (loadCellsFrom ⟨blk, off + hh * k, none⟩ 0 k #[]) (grow (wr.drewN n) os) = .ok cu.toArray (grow (wr.drewN n) os) := fun n os => by rw [hcu, hk, ← hDu]; exact HB.out.2.2.ld HR.out HD.out.1 Try.prog hh (by rw [HD.out.1]; have := HP.out; omega) n os
      have l2 : ∀ n os, Sem.run Try.prog (loadCellsFrom ⟨blk, off + m * k, none⟩ 0 k #[]) (grow (wr.drewN n) os) = .ok cy.toArray (grow (wr.drewN n) os) := fun n os => by rw [hcy, hk, ← HD.out.2.1]; exact HB.out.2.2.ld HR.out HD.out.1 Try.prog m (by rw [HD.out.1]; have := HP.out; omega) n os
      have aE : ∀ w, (isAgg 55).run Try.prog w = .ok true w := Try.isAgg55
      have zE : ∀ w, (Go.sizeOf 55).run Try.prog w = .ok k w := by rw [hk]; exact Try.sizeOf55
      rw [← hcy, ← hcu] at hcg
      obtain ⟨C, hC⟩ : ∃ C, cf y u = C := ⟨_, rfl⟩
      rw [hC] at hcg
      have HY : Hid (U[hh - a]? = some u ∧ cf y u = C) := ⟨hu, hC⟩
      have HG : Hid (∀ n os, Calls Try.prog 40 #[.agg cy.toArray, .agg cu.toArray] (grow (wr.drewN n) os) fun e w' => e = .returned (.int .i64 C) ∧ ∃ q os', w' = grow ((grow (wr.drewN n) os).drewN q) os') := hcg
      clear hcg hu hDu hcy hcu hk hhe hC
      have eg := enters_g
      by_cases hneg : C < 0
      · have HL : Hid (∀ v ∈ U.drop (hh - a), ltOf cf y v = true) := St.s2_lt HS.out.2 HS.out.1 HY.out.1 (by unfold ltOf; rw [HY.out.2]; exact decide_eq_true hneg)
        have hnd : (!decide (C < 0)) = false := by simp [hneg]
        go_wp2_with fail
        go_quiet_grown (first | (go_at_fn 40; refine Calls.grown_of (HG.out _ _)))
        go_wp2_with fail
        go_roundw
        case rel => exact ⟨i, hh, rfl, rfl, by omega, by omega, by omega, ⟨HB.out.1, HL.out, HB.out.2.2.grown _ _⟩⟩
        case measure => simp [intOf]; omega
      · have HL : Hid (∀ v ∈ U.take (hh + 1 - a), ltOf cf y v = false) := by
          have := St.s2_ge HS.out.2 HS.out.1 HY.out.1 (by unfold ltOf; rw [HY.out.2]; exact decide_eq_false hneg)
          rwa [show hh - a + 1 = hh + 1 - a from by omega] at this
        have hnd : (!decide (C < 0)) = true := by simp [hneg]
        go_wp2_with fail
        go_quiet_grown (first | (go_at_fn 40; refine Calls.grown_of (HG.out _ _)))
        go_wp2_with fail
        go_roundw
        case rel => exact ⟨hh + 1, j, by go_num, rfl, by omega, by omega, by omega, ⟨HL.out, HB.out.2.1, HB.out.2.2.grown _ _⟩⟩
        case measure => simp [intOf]; omega
    · have hij' : i = j := by omega
      subst hij'
      obtain ⟨U1, hU1⟩ : ∃ U1, U1 = U.take (i - a) := ⟨_, rfl⟩
      obtain ⟨U2, hU2⟩ : ∃ U2, U2 = U.drop (i - a) := ⟨_, rfl⟩
      have HE : Hid (P ++ (U1 ++ y :: (U2 ++ Z)) = P ++ (St.mg (ltOf cf) U [y] ++ Z) ∧ (P ++ U1) ++ (U2 ++ y :: Z) = P ++ (U ++ y :: Z) ∧ (P ++ U1).length = i ∧ U2.length = m - i) := by
        have e := St.mg_put (lt := ltOf cf) (S1 := U1) (S2 := U2) (x := y) (by rw [hU1]; exact HB.out.1) (by rw [hU2]; exact HB.out.2.1)
        have e2 : U1 ++ U2 = U := by rw [hU1, hU2]; exact List.take_append_drop _ _
        rw [e2] at e
        have h1 := HP.out
        refine ⟨by rw [e]; simp, by rw [← e2]; simp, ?_, ?_⟩
        · rw [hU1, List.length_append, List.length_take]; omega
        · rw [hU2, List.length_drop]; omega
      have H1 : Hid (SWK enc 8 w0 blk off (St.thr (P ++ U1) y U2 Z (m - i)).toArray wr) := by
        rw [St.thr_n _ _ _ _ _ HE.out.2.2.2.symm, HE.out.2.1, ← HP.out.1]; exact HB.out.2.2
      clear hU1 hU2 HB
      go_wp2_with fail
      go_loopw [17] (fun v wr => ∃ (q : Nat), v = .int .i64 q ∧ (i : Int) ≤ q ∧ (q : Int) ≤ m ∧ Hid (SWK enc 8 w0 blk off (St.thr (P ++ U1) y U2 Z (q - i)).toArray wr)) (fun v _ => (intOf v).toNat)
      case atStart => exact ⟨m, rfl, by omega, by omega, H1.out⟩
      case round =>
        obtain ⟨q, rfl, hq, hqi, HB⟩ := hrel
        by_cases hl2 : (i : Int) < q
        · obtain ⟨dk, hdk⟩ : ∃ dk, (St.thr (P ++ U1) y U2 Z (q - i)).toArray = dk := ⟨_, rfl⟩
          have hds : dk.size = d0.size := by
            rw [← hdk, List.size_toArray, St.thr_len]
            have h1 := HP.out
            have h2 := HE.out.2.2
            omega
          obtain ⟨J, hJ⟩ : ∃ J : Nat, q = J + 1 := ⟨q - 1, by omega⟩
          have HF' : Hid (swp dk q J = (St.thr (P ++ U1) y U2 Z (J - i)).toArray) := by
            have h2 := HE.out.2.2
            have := St.thr_swp' (P ++ U1) y U2 Z (t := J - i) (by omega) J (by omega)
            rw [show J - i + 1 = q - i from by omega, hdk, ← hJ] at this
            exact this
          rw [hdk] at HB
          have w1 : (q : Int) - 1 = (J : Int) := by omega
          have lI : (q : Int) < N := by omega
          have lJ : (J : Int) < N := by omega
          have hId : q < dk.size := by rw [hds, ← HP.out.2.2.2.2.2]; omega
          have hJd : J < dk.size := by rw [hds, ← HP.out.2.2.2.2.2]; omega
          obtain ⟨xI, hxI⟩ : ∃ x, dk[q]! = x := ⟨_, rfl⟩
          obtain ⟨xJ, hxJ⟩ : ∃ x, dk[J]! = x := ⟨_, rfl⟩
          obtain ⟨cI, hcI⟩ : ∃ c, c = enc xI := ⟨_, rfl⟩
          obtain ⟨cJ, hcJ⟩ : ∃ c, c = enc xJ := ⟨_, rfl⟩
          obtain ⟨k, hk⟩ : ∃ k : Nat, k = 8 := ⟨_, rfl⟩
          have l1 : Sem.run Try.prog (loadCellsFrom ⟨blk, off + q * k, none⟩ 0 k #[]) wr.drew = .ok cI.toArray wr.drew := by rw [hcI, hk, ← hxI]; exact HB.out.ld1 HR.out hds Try.prog q hId
          have l2 : Sem.run Try.prog (loadCellsFrom ⟨blk, off + J * k, none⟩ 0 k #[]) wr.drew = .ok cJ.toArray wr.drew := by rw [hcJ, hk, ← hxJ]; exact HB.out.ld1 HR.out hds Try.prog J hJd
          obtain ⟨W1, hW1⟩ : ∃ W1, W1 = wr.drew.setCells blk (off + q * k) cJ := ⟨_, rfl⟩
          obtain ⟨W2, hW2⟩ : ∃ W2, W2 = W1.setCells blk (off + J * k) cI := ⟨_, rfl⟩
          have s1 : Sem.run Try.prog (storeCells ⟨blk, off + q * k, none⟩ cJ 0) wr.drew = .ok () W1 := by rw [hW1, hcJ, hk]; exact HB.out.st1 HR.out hds Try.prog q hId xJ
          have s2 : Sem.run Try.prog (storeCells ⟨blk, off + J * k, none⟩ cI 0) W1 = .ok () W2 := by rw [hW2, hW1, hcI, hcJ, hk]; exact HB.out.st2 HR.out hds Try.prog q J hId hJd xJ xI
          have HW : Hid (SWK enc 8 w0 blk off (swp dk q J) W2) := by rw [hW2, hW1, hcI, hcJ, hk, ← hxI, ← hxJ]; exact HB.out.swapped HR.out q J hId hJd
          have e1 : cI.length = k := by rw [hcI, hk]; exact HR.out.hk _
          have e2 : cJ.length = k := by rw [hcJ, hk]; exact HR.out.hk _
          have aE : ∀ w, (isAgg 55).run Try.prog w = .ok true w := Try.isAgg55
          have zE : ∀ w, (Go.sizeOf 55).run Try.prog w = .ok k w := by rw [hk]; exact Try.sizeOf55
          have HJ : Hid (q = J + 1) := hJ
          clear hdk hId hJd hxI hxJ hds HB hcI hcJ hk hW1 hW2 hJ
          go_wp2_with fail
          go_big_region_o
          all_goals
            go_wp2_with fail
            go_roundw
            case rel => exact ⟨J, by go_num, by omega, by omega, by rw [← HF'.out]; exact HW.out⟩
            case measure => simp [intOf]; omega
        · have hqe : q - i = 0 := by omega
          have HZ : Hid (SWK enc 8 w0 blk off (P ++ (St.mg (ltOf cf) U [y] ++ Z)).toArray wr) := by
            rw [← HE.out.1]
            have := HB.out
            rw [hqe, St.thr_0, List.append_assoc] at this
            exact this
          clear hqe
          go_wp2_with fail
          refine bodyPost_ret (results_none rfl _ _ _) rfl ?_
          exact ⟨rfl, HZ.out⟩
end Go.Proofs.Ytdlipponajilbaa
