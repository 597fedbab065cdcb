/- slices.symMergeCmpFunc where one stands on the left. -/
import Derived.Test.YtdlipponajilbaaClT
import Derived.Test.YtdlipponajilbaaClS
namespace Go.Proofs.Ytdlipponajilbaa
open Go Go.RowKit Go.Sort Go.Shelf Go.Lib Go.Proofs
set_option linter.unusedVariables false
variable {α : Type} [Inhabited α] {enc : α → List Value} {w0 : World} {blk off : Nat} {d0 : Array α}
theorem half_nat (i j : Nat) (h : (i : Int) + j ≤ 4000000) : ((i : Int) + j) / 2 = (((i + j) / 2 : Nat) : Int) := by omega
theorem enters_g : ∀ args w, (callFunc 40 args).run Try.prog w = .ok (.enter 40 args) w := Proofs.enters_of Try.func40 (by kernel_rfl) rfl
set_option maxHeartbeats 1000000 in
set_option maxRecDepth 100000 in
theorem symL_any (R : RowK enc 8 w0 blk off d0) (cf : α → α → Int) (hS : SWO (ltOf cf)) (hcmp : CmpLays Try.prog 40 #[] enc 8 cf blk off d0.size w0) (P V Z : List α) (x : α) (N a m b cap : Nat) (ha : a = P.length) (hm : m = a + 1) (hb : b = m + V.length) (hV : St.So (ltOf cf) V) (hN : N = d0.size) (hL : N = b + Z.length) (hsz : N ≤ 1000000)
    (W : World) (h : SWK enc 8 w0 blk off (P ++ x :: (V ++ Z)).toArray W) :
    Calls Try.prog 81 #[.slice (some ⟨blk, off, none⟩) N cap, .int .i64 (a : Int), .int .i64 (m : Int), .int .i64 (b : Int), .func (.func 40) #[] #[]] W fun e w' => e = .returned (.tuple #[]) ∧ Hid (SWK enc 8 w0 blk off (P ++ (St.mg (ltOf cf) [x] V ++ Z)).toArray w') := by
  have HR : Hid (RowK enc 8 w0 blk off d0) := R
  obtain ⟨D, hD⟩ : ∃ D, D = (P ++ x :: (V ++ Z)).toArray := ⟨_, rfl⟩
  have HD : Hid (D.size = d0.size ∧ D[a]! = x ∧ ∀ i v, V[i]? = some v → D[m + i]! = v) := by
    subst hD
    refine ⟨by simp; omega, St.get_at _ P _ x a rfl ha, fun i v hv => ?_⟩
    have hi : i < V.length := (List.getElem?_eq_some_iff.1 hv).1
    apply St.get_some
    rw [List.getElem?_append_right (by omega), show m + i - P.length = i + 1 from by omega, List.getElem?_cons_succ, List.getElem?_append_left hi]
    exact hv
  have HP : Hid (D = (P ++ x :: (V ++ Z)).toArray ∧ a = P.length ∧ m = a + 1 ∧ b = m + V.length ∧ N = b + Z.length ∧ N = d0.size) := ⟨hD, ha, hm, hb, hL, hN⟩
  have HC : Hid (∀ (W : World) (i j n : Nat) (os : Array Obj), SWK enc 8 w0 blk off D W → Calls Try.prog 40 #[.agg (enc D[i]!).toArray, .agg (enc D[j]!).toArray] (grow (W.drewN n) os) fun e w' => e = .returned (.int .i64 (cf D[i]! D[j]!)) ∧ ∃ q os', w' = grow ((grow (W.drewN n) os).drewN q) os') := fun (W : World) (i j n : Nat) (os : Array Obj) h => by
    have := h.cmp (g := 40) (cb := #[]) hcmp HD.out.1 D[i]! D[j]! n os
    simpa using this
  have HS : Hid (St.So (ltOf cf) V ∧ SWO (ltOf cf)) := ⟨hV, hS⟩
  have H0 : Hid (SWK enc 8 w0 blk off D W) := by rw [hD]; exact h
  have z1 : (a : Int) + 1 = m := by omega
  have z2 : (m : Int) ≤ b := by omega
  have z3 : (b : Int) ≤ N := by omega
  have z4 : (N : Int) ≤ 1000000 := by omega
  have z5 : (m : Int) - a = 1 := by omega
  have mixed : Try.prog.follows .mixedOrders = true := by kernel_rfl
  clear hD ha hm hb hV hN hL hsz h R hS hcmp
  go_enter Try.func81, Try.ntmps81
  go_wp2_with fail
  go_loopw [10, 11, 12] (fun v u _ wr => ∃ (i j : Nat), v = .int .i64 i ∧ u = .int .i64 j ∧ (m : Int) ≤ i ∧ (i : Int) ≤ j ∧ (j : Int) ≤ b ∧ Hid ((∀ v ∈ V.take (i - m), ltOf cf v x = true) ∧ (∀ v ∈ V.drop (j - m), ltOf cf v x = false) ∧ SWK enc 8 w0 blk off D wr)) (fun v u _ _ => (intOf u - intOf v).toNat)
  case atStart => exact ⟨m, b, rfl, rfl, by omega, by omega, by omega, ⟨(fun v hv => by rw [Nat.sub_self] at hv; simp at hv), (fun v hv => by rw [List.drop_of_length_le (by have := HP.out; omega)] at hv; cases hv), H0.out⟩⟩
  case round =>
    obtain ⟨i, j, rfl, rfl, hi, hij, hj, HB⟩ := hrel
    clear z5
    by_cases hlt : (i : Int) < j
    · obtain ⟨hh, hhe⟩ : ∃ hh : Nat, hh = (i + j) / 2 := ⟨_, rfl⟩
      have k1 : (i : Int) ≤ hh := by omega
      have k2 : (hh : Int) < j := by omega
      have k3 : ((i : Int) + j) / 2 = hh := by omega
      have k4 : (hh : Int) < N := by omega
      have k5 : (a : Int) < N := by omega
      obtain ⟨y, hy⟩ : ∃ y, V[hh - m]? = some y := ⟨_, List.getElem?_eq_getElem (by have := HP.out; omega)⟩
      have hDy : D[hh]! = y := by have := HD.out.2.2 _ _ hy; rwa [show m + (hh - m) = hh from by omega] at this
      have hcg := fun n os => HC.out wr hh a n os HB.out.2.2
      rw [hDy, HD.out.2.1] at hcg
      obtain ⟨k, hk⟩ : ∃ k : Nat, k = 8 := ⟨_, rfl⟩
      obtain ⟨cy, hcy⟩ : ∃ c, c = enc y := ⟨_, rfl⟩
      obtain ⟨cx, hcx⟩ : ∃ c, c = enc x := ⟨_, rfl⟩
      have l1 : ∀ n os, Sem.run Try.prog (loadCellsFrom ⟨blk, off + hh * k, none⟩ 0 k #[]) (grow (wr.drewN n) os) = .ok cy.toArray (grow (wr.drewN n) os) := fun n os => by rw [hcy, hk, ← hDy]; exact HB.out.2.2.ld HR.out HD.out.1 Try.prog hh (by rw [HD.out.1]; have := HP.out; omega) n os
      have l2 : ∀ n os, Sem.run Try.prog (loadCellsFrom ⟨blk, off + a * k, none⟩ 0 k #[]) (grow (wr.drewN n) os) = .ok cx.toArray (grow (wr.drewN n) os) := fun n os => by rw [hcx, hk, ← HD.out.2.1]; exact HB.out.2.2.ld HR.out HD.out.1 Try.prog a (by rw [HD.out.1]; have := HP.out; omega) n os
      have aE : ∀ w, (isAgg 55).run Try.prog w = .ok true w := Try.isAgg55
      have zE : ∀ w, (Go.sizeOf 55).run Try.prog w = .ok k w := by rw [hk]; exact Try.sizeOf55
      rw [← hcy, ← hcx] at hcg
      obtain ⟨C, hC⟩ : ∃ C, cf y x = C := ⟨_, rfl⟩
      rw [hC] at hcg
      have HY : Hid (V[hh - m]? = some y ∧ cf y x = C) := ⟨hy, hC⟩
      have HG : Hid (∀ n os, Calls Try.prog 40 #[.agg cy.toArray, .agg cx.toArray] (grow (wr.drewN n) os) fun e w' => e = .returned (.int .i64 C) ∧ ∃ q os', w' = grow ((grow (wr.drewN n) os).drewN q) os') := hcg
      clear hcg hy hDy hcy hcx hk hhe hC
      have eg := enters_g
      by_cases hneg : C < 0
      · have HL : Hid (∀ v ∈ V.take (hh + 1 - m), ltOf cf v x = true) := by
          have := St.s1_lt HS.out.2 HS.out.1 HY.out.1 (by unfold ltOf; rw [HY.out.2]; exact decide_eq_true hneg)
          rwa [show hh - m + 1 = hh + 1 - m from by omega] at this
        go_wp2_with fail
        go_quiet_grown (first | (go_at_fn 40; refine Calls.grown_of (HG.out _ _)))
        go_wp2_with fail
        go_roundw
        case rel => exact ⟨hh + 1, j, by go_num, rfl, by omega, by omega, by omega, ⟨HL.out, HB.out.2.1, HB.out.2.2.grown _ _⟩⟩
        case measure => simp [intOf]; omega
      · have HL : Hid (∀ v ∈ V.drop (hh - m), ltOf cf v x = false) := St.s1_ge HS.out.2 HS.out.1 HY.out.1 (by unfold ltOf; rw [HY.out.2]; exact decide_eq_false hneg)
        go_wp2_with fail
        go_quiet_grown (first | (go_at_fn 40; refine Calls.grown_of (HG.out _ _)))
        go_wp2_with fail
        go_roundw
        case rel => exact ⟨i, hh, rfl, rfl, by omega, by omega, by omega, ⟨HB.out.1, HL.out, HB.out.2.2.grown _ _⟩⟩
        case measure => simp [intOf]; omega
    · have hij' : i = j := by omega
      subst hij'
      obtain ⟨V1, hV1⟩ : ∃ V1, V1 = V.take (i - m) := ⟨_, rfl⟩
      obtain ⟨V2, hV2⟩ : ∃ V2, V2 = V.drop (i - m) := ⟨_, rfl⟩
      have HE : Hid (P ++ (V1 ++ x :: (V2 ++ Z)) = P ++ (St.mg (ltOf cf) [x] V ++ Z) ∧ P ++ x :: (V1 ++ (V2 ++ Z)) = P ++ x :: (V ++ Z) ∧ V1.length = i - m) := by
        have e := St.mg_push (lt := ltOf cf) (V1 := V1) (V2 := V2) (x := x) (by rw [hV1]; exact HB.out.1) (by rw [hV2]; exact HB.out.2.1)
        have e2 : V1 ++ V2 = V := by rw [hV1, hV2]; exact List.take_append_drop _ _
        rw [e2] at e
        refine ⟨by rw [e]; simp, by rw [← e2]; simp, ?_⟩
        rw [hV1, List.length_take]
        have := HP.out
        omega
      have H1 : Hid (SWK enc 8 w0 blk off (St.thr P x V1 (V2 ++ Z) 0).toArray wr) := by
        rw [St.thr_0, HE.out.2.1, ← HP.out.1]; exact HB.out.2.2
      have z6 : (i : Int) - 1 ≤ N := by omega
      clear hV1 hV2 HB
      go_wp2_with fail
      go_loopw [13] (fun v wr => ∃ (q : Nat), v = .int .i64 q ∧ (a : Int) ≤ q ∧ (q : Int) ≤ i - 1 ∧ Hid (SWK enc 8 w0 blk off (St.thr P x V1 (V2 ++ Z) (q - a)).toArray wr)) (fun v _ => i - (intOf v).toNat)
      case atStart => exact ⟨a, rfl, by omega, by omega, by rw [Nat.sub_self]; exact H1.out⟩
      case round =>
        obtain ⟨q, rfl, hq, hqi, HB⟩ := hrel
        by_cases hl2 : (q : Int) < i - 1
        · obtain ⟨dk, hdk⟩ : ∃ dk, (St.thr P x V1 (V2 ++ Z) (q - a)).toArray = dk := ⟨_, rfl⟩
          have hds : dk.size = d0.size := by
            rw [← hdk, List.size_toArray, St.thr_len, List.length_append]
            have h1 := HP.out
            have h2 := HE.out.2.2
            have h3 : V2.length = V.length - (i - m) := by
              have e := congrArg List.length HE.out.2.1
              simp at e
              omega
            omega
          have HF' : Hid (swp dk q (q + 1) = (St.thr P x V1 (V2 ++ Z) (q + 1 - a)).toArray) := by
            have h1 := HP.out
            have h2 := HE.out.2.2
            have := St.thr_swp P x V1 (V2 ++ Z) (t := q - a) (by omega) q (by omega)
            rw [hdk, show q - a + 1 = q + 1 - a from by omega] at this
            exact this
          rw [hdk] at HB
          have w1 : (q : Int) + 1 = ((q + 1 : Nat) : Int) := by omega
          obtain ⟨J, hJ⟩ : ∃ J : Nat, J = q + 1 := ⟨_, rfl⟩
          rw [← hJ] at w1 HF'
          have lI : (q : Int) < N := by omega
          have lJ : (J : Int) < N := by omega
          have hId : q < dk.size := by rw [hds, ← HP.out.2.2.2.2.2]; omega
          have hJd : J < dk.size := by rw [hds, ← HP.out.2.2.2.2.2]; omega
          obtain ⟨xI, hxI⟩ : ∃ x, dk[q]! = x := ⟨_, rfl⟩
          obtain ⟨xJ, hxJ⟩ : ∃ x, dk[J]! = x := ⟨_, rfl⟩
          obtain ⟨cI, hcI⟩ : ∃ c, c = enc xI := ⟨_, rfl⟩
          obtain ⟨cJ, hcJ⟩ : ∃ c, c = enc xJ := ⟨_, rfl⟩
          obtain ⟨k, hk⟩ : ∃ k : Nat, k = 8 := ⟨_, rfl⟩
          have l1 : Sem.run Try.prog (loadCellsFrom ⟨blk, off + q * k, none⟩ 0 k #[]) wr.drew = .ok cI.toArray wr.drew := by rw [hcI, hk, ← hxI]; exact HB.out.ld1 HR.out hds Try.prog q hId
          have l2 : Sem.run Try.prog (loadCellsFrom ⟨blk, off + J * k, none⟩ 0 k #[]) wr.drew = .ok cJ.toArray wr.drew := by rw [hcJ, hk, ← hxJ]; exact HB.out.ld1 HR.out hds Try.prog J hJd
          obtain ⟨W1, hW1⟩ : ∃ W1, W1 = wr.drew.setCells blk (off + q * k) cJ := ⟨_, rfl⟩
          obtain ⟨W2, hW2⟩ : ∃ W2, W2 = W1.setCells blk (off + J * k) cI := ⟨_, rfl⟩
          have s1 : Sem.run Try.prog (storeCells ⟨blk, off + q * k, none⟩ cJ 0) wr.drew = .ok () W1 := by rw [hW1, hcJ, hk]; exact HB.out.st1 HR.out hds Try.prog q hId xJ
          have s2 : Sem.run Try.prog (storeCells ⟨blk, off + J * k, none⟩ cI 0) W1 = .ok () W2 := by rw [hW2, hW1, hcI, hcJ, hk]; exact HB.out.st2 HR.out hds Try.prog q J hId hJd xJ xI
          have HW : Hid (SWK enc 8 w0 blk off (swp dk q J) W2) := by rw [hW2, hW1, hcI, hcJ, hk, ← hxI, ← hxJ]; exact HB.out.swapped HR.out q J hId hJd
          have e1 : cI.length = k := by rw [hcI, hk]; exact HR.out.hk _
          have e2 : cJ.length = k := by rw [hcJ, hk]; exact HR.out.hk _
          have aE : ∀ w, (isAgg 55).run Try.prog w = .ok true w := Try.isAgg55
          have zE : ∀ w, (Go.sizeOf 55).run Try.prog w = .ok k w := by rw [hk]; exact Try.sizeOf55
          have HJ : Hid (J = q + 1) := hJ
          clear hdk hId hJd hxI hxJ hds HB hcI hcJ hk hW1 hW2 hJ
          go_wp2_with fail
          go_big_region_o
          all_goals
            go_wp2_with fail
            go_roundw
            case rel => exact ⟨J, by go_num, by omega, by omega, by rw [← HF'.out]; exact HW.out⟩
            case measure => simp [intOf]; omega
        · have hqe : q - a = V1.length := by have h1 := HP.out; have h2 := HE.out.2.2; omega
          have HZ : Hid (SWK enc 8 w0 blk off (P ++ (St.mg (ltOf cf) [x] V ++ Z)).toArray wr) := by
            rw [← HE.out.1, ← St.thr_n P x V1 (V2 ++ Z) (q - a) hqe]; exact HB.out
          clear hqe
          go_wp2_with fail
          refine bodyPost_ret (results_none rfl _ _ _) rfl ?_
          exact ⟨rfl, HZ.out⟩
end Go.Proofs.Ytdlipponajilbaa
