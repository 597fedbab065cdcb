/- slices.symMergeCmpFunc where several stand on either side. -/
import Derived.Test.YtdlipponajilbaaClWa
namespace Go.Proofs.Ytdlipponajilbaa
open Go Go.RowKit Go.Sort Go.Shelf Go.Lib Go.Proofs
set_option linter.unusedVariables false
variable {α : Type} [Inhabited α] {enc : α → List Value} {w0 : World} {blk off : Nat} {d0 : Array α}
set_option maxHeartbeats 4000000 in
set_option maxRecDepth 100000 in
theorem symGb_any (R : RowK enc 8 w0 blk off d0) (cf : α → α → Int) (hS : SWO (ltOf cf)) (hcmp : CmpLays Try.prog 40 #[] enc 8 cf blk off d0.size w0) (P U V Z : List α) (N a m b cap : Nat) (ha : a = P.length) (hm : m = a + U.length) (hb : b = m + V.length) (hU : 2 ≤ U.length) (hV : 2 ≤ V.length) (sU : St.So (ltOf cf) U) (sV : St.So (ltOf cf) V) (hN : N = d0.size) (hL : N = b + Z.length) (hsz : N ≤ 1000000)
    (HI : Hid (∀ (P' U' V' Z' : List α) (a' m' b' : Nat) (x y z : Int) (W' : World), U'.length + V'.length < U.length + V.length → x = a' → y = m' → z = b' → a' = P'.length → m' = a' + U'.length → b' = m' + V'.length → 0 < U'.length → 0 < V'.length → St.So (ltOf cf) U' → St.So (ltOf cf) V' → N = b' + Z'.length → SWK enc 8 w0 blk off (P' ++ (U' ++ (V' ++ Z'))).toArray W' → Calls Try.prog 81 #[.slice (some ⟨blk, off, none⟩) N cap, .int .i64 x, .int .i64 y, .int .i64 z, .func (.func 40) #[] #[]] W' fun e w' => e = .returned (.tuple #[]) ∧ Hid (SWK enc 8 w0 blk off (P' ++ (St.mg (ltOf cf) U' V' ++ Z')).toArray w')))
    (hcase : (a + b) / 2 < m)
    (W : World) (h : SWK enc 8 w0 blk off (P ++ (U ++ (V ++ Z))).toArray W) :
    Calls Try.prog 81 #[.slice (some ⟨blk, off, none⟩) N cap, .int .i64 (a : Int), .int .i64 (m : Int), .int .i64 (b : Int), .func (.func 40) #[] #[]] W fun e w' => e = .returned (.tuple #[]) ∧ Hid (SWK enc 8 w0 blk off (P ++ (St.mg (ltOf cf) U V ++ Z)).toArray w') := by
  have HR : Hid (RowK enc 8 w0 blk off d0) := R
  obtain ⟨D, hD⟩ : ∃ D, D = (P ++ (U ++ (V ++ Z))).toArray := ⟨_, rfl⟩
  have HD : Hid (D.size = d0.size ∧ (∀ i v, U[i]? = some v → D[a + i]! = v) ∧ ∀ i v, V[i]? = some v → D[m + i]! = v) := by
    subst hD
    refine ⟨by simp; omega, fun i v hv => ?_, fun i v hv => ?_⟩
    · have hi : i < U.length := (List.getElem?_eq_some_iff.1 hv).1
      apply St.get_some
      rw [List.getElem?_append_right (by omega), show a + i - P.length = i from by omega, List.getElem?_append_left hi]
      exact hv
    · have hi : i < V.length := (List.getElem?_eq_some_iff.1 hv).1
      apply St.get_some
      rw [List.getElem?_append_right (by omega), List.getElem?_append_right (by omega), show m + i - P.length - U.length = i from by omega, List.getElem?_append_left hi]
      exact hv
  have HP : Hid (D = (P ++ (U ++ (V ++ Z))).toArray ∧ a = P.length ∧ m = a + U.length ∧ b = m + V.length ∧ N = b + Z.length ∧ N = d0.size) := ⟨hD, ha, hm, hb, hL, hN⟩
  have HC : Hid (∀ (W : World) (i j n : Nat) (os : Array Obj), SWK enc 8 w0 blk off D W → Calls Try.prog 40 #[.agg (enc D[i]!).toArray, .agg (enc D[j]!).toArray] (grow (W.drewN n) os) fun e w' => e = .returned (.int .i64 (cf D[i]! D[j]!)) ∧ ∃ q os', w' = grow ((grow (W.drewN n) os).drewN q) os') := fun (W : World) (i j n : Nat) (os : Array Obj) h => by
    have := h.cmp (g := 40) (cb := #[]) hcmp HD.out.1 D[i]! D[j]! n os
    simpa using this
  have HS : Hid (St.So (ltOf cf) U ∧ St.So (ltOf cf) V ∧ SWO (ltOf cf)) := ⟨sU, sV, hS⟩
  have H0 : Hid (SWK enc 8 w0 blk off D W) := by rw [hD]; exact h
  have z1 : (a : Int) + 2 ≤ m := by omega
  have z2 : (m : Int) + 2 ≤ b := by omega
  have z3 : (b : Int) ≤ N := by omega
  have z4 : (N : Int) ≤ 1000000 := by omega
  have z5 : ((m : Int) - a == 1) = false := by simp; omega
  have z6 : ((b : Int) - m == 1) = false := by simp; omega
  have mixed : Try.prog.follows .mixedOrders = true := by kernel_rfl
  obtain ⟨mid, hmid⟩ : ∃ mid : Nat, mid = (a + b) / 2 := ⟨_, rfl⟩
  have y1 : ((a : Int) + b) / 2 = mid := by omega
  have y2 : 2 * (mid : Int) ≤ a + b := by omega
  have y3 : (a : Int) + b ≤ 2 * mid + 1 := by omega
  obtain ⟨n, hn⟩ : ∃ n : Nat, n = mid + m := ⟨_, rfl⟩
  have y4 : (mid : Int) + m = n := by omega
  obtain ⟨p, hp⟩ : ∃ p : Nat, n = p + 1 := ⟨n - 1, by omega⟩
  have y5 : (n : Int) - 1 = p := by omega
  obtain ⟨s0, hs0⟩ : ∃ s0 : Nat, n = s0 + b := ⟨n - b, by omega⟩
  obtain ⟨r0, hr0⟩ : ∃ r0 : Nat, mid = r0 := ⟨_, rfl⟩
  have x1 : (a : Int) ≤ s0 := by omega
  have x2 : (s0 : Int) ≤ r0 := by omega
  have x3 : (r0 : Int) ≤ m := by omega
  have x4 : (r0 : Int) ≤ mid := by omega
  have x5 : (n : Int) ≤ s0 + b := by omega
  have HX : Hid ((n = s0 + b ∨ s0 = a) ∧ (r0 = mid ∨ r0 = m) ∧ n = p + 1 ∧ n = mid + m) := ⟨by omega, by omega, hp, hn⟩
  have k1 : (mid : Int) < m := by omega
  have k2 : (n : Int) - b = s0 := by omega
  clear hD ha hm hb hU hV hN hL hsz h R hS hcmp hmid hn hp sU sV hcase hs0
  subst hr0
  go_enter Try.func81, Try.ntmps81
  go_wp2_with fail
  go_loopw [20, 21, 23] (fun v u _ wr => ∃ (s r : Nat), v = .int .i64 s ∧ u = .int .i64 r ∧ (s0 : Int) ≤ s ∧ (s : Int) ≤ r ∧ (r : Int) ≤ mid ∧ Hid ((s = s0 ∨ ltOf cf D[p - (s - 1)]! D[s - 1]! = false) ∧ (r = mid ∨ ltOf cf D[p - r]! D[r]! = true) ∧ SWK enc 8 w0 blk off D wr)) (fun v u _ _ => (intOf u - intOf v).toNat)
  case atStart => exact ⟨s0, mid, rfl, rfl, by omega, by omega, by omega, ⟨.inl rfl, .inl rfl, H0.out⟩⟩
  case round =>
    obtain ⟨s, r, rfl, rfl, hs0, hsr, hr0, HB⟩ := hrel
    by_cases hlt : (s : Int) < r
    · obtain ⟨c, hc⟩ : ∃ c : Nat, c = (s + r) / 2 := ⟨_, rfl⟩
      have k3 : ((s : Int) + r) / 2 = c := by omega
      have k4 : (s : Int) ≤ c := by omega
      have k5 : (c : Int) < r := by omega
      obtain ⟨q, hq⟩ : ∃ q : Nat, q + c = p := ⟨p - c, by omega⟩
      have k6 : (p : Int) - c = q := by omega
      have k6w : IntKind.i64.wrap (q : Int) = q := by rw [IntKind.wrap_i64]; omega
      have k7 : (c : Int) < N := by omega
      have k8 : (q : Int) < N := by omega
      obtain ⟨xq, hxq⟩ : ∃ x, D[q]! = x := ⟨_, rfl⟩
      obtain ⟨xc, hxc⟩ : ∃ x, D[c]! = x := ⟨_, rfl⟩
      have hcg := fun n os => HC.out wr q c n os HB.out.2.2
      rw [hxq, hxc] at hcg
      obtain ⟨k, hk⟩ : ∃ k : Nat, k = 8 := ⟨_, rfl⟩
      obtain ⟨cq, hcq⟩ : ∃ c, c = enc xq := ⟨_, rfl⟩
      obtain ⟨cc, hcc⟩ : ∃ c, c = enc xc := ⟨_, rfl⟩
      have l1 : ∀ n os, Sem.run Try.prog (loadCellsFrom ⟨blk, off + q * k, none⟩ 0 k #[]) (grow (wr.drewN n) os) = .ok cq.toArray (grow (wr.drewN n) os) := fun n os => by rw [hcq, hk, ← hxq]; exact HB.out.2.2.ld HR.out HD.out.1 Try.prog q (by rw [HD.out.1]; have := HP.out; omega) n os
      have l2 : ∀ n os, Sem.run Try.prog (loadCellsFrom ⟨blk, off + c * k, none⟩ 0 k #[]) (grow (wr.drewN n) os) = .ok cc.toArray (grow (wr.drewN n) os) := fun n os => by rw [hcc, hk, ← hxc]; exact HB.out.2.2.ld HR.out HD.out.1 Try.prog c (by rw [HD.out.1]; have := HP.out; omega) n os
      have aE : ∀ w, (isAgg 55).run Try.prog w = .ok true w := Try.isAgg55
      have zE : ∀ w, (Go.sizeOf 55).run Try.prog w = .ok k w := by rw [hk]; exact Try.sizeOf55
      rw [← hcq, ← hcc] at hcg
      obtain ⟨C, hC⟩ : ∃ C, cf xq xc = C := ⟨_, rfl⟩
      rw [hC] at hcg
      have HY : Hid (cf D[q]! D[c]! = C ∧ q = p - c) := ⟨by rw [hxq, hxc]; exact hC, by omega⟩
      have HG : Hid (∀ n os, Calls Try.prog 40 #[.agg cq.toArray, .agg cc.toArray] (grow (wr.drewN n) os) fun e w' => e = .returned (.int .i64 C) ∧ ∃ q os', w' = grow ((grow (wr.drewN n) os).drewN q) os') := hcg
      clear hcg hxq hxc hcq hcc hk hc hC hq
      have eg := enters_g
      by_cases hneg : C < 0
      · have hnd : (!decide (C < 0)) = false := by simp [hneg]
        have HL : Hid (ltOf cf D[p - c]! D[c]! = true) := by
          show _ = _
          rw [← HY.out.2]; unfold ltOf; rw [HY.out.1]; exact decide_eq_true hneg
        go_wp2_with fail
        go_quiet_grown (first | (go_at_fn 40; refine Calls.grown_of (HG.out _ _)))
        go_wp2_with fail
        go_roundw
        case rel => exact ⟨s, c, rfl, rfl, by omega, by omega, by omega, ⟨HB.out.1, .inr HL.out, HB.out.2.2.grown _ _⟩⟩
        case measure => simp [intOf]; omega
      · have hnd : (!decide (C < 0)) = true := by simp [hneg]
        have HL : Hid (ltOf cf D[p - (c + 1 - 1)]! D[c + 1 - 1]! = false) := by
          show _ = _
          rw [Nat.add_sub_cancel, ← HY.out.2]; unfold ltOf; rw [HY.out.1]; exact decide_eq_false hneg
        go_wp2_with fail
        go_quiet_grown (first | (go_at_fn 40; refine Calls.grown_of (HG.out _ _)))
        go_wp2_with fail
        go_roundw
        case rel => exact ⟨c + 1, r, by go_num, rfl, by omega, by omega, by omega, ⟨.inr HL.out, HB.out.2.1, HB.out.2.2.grown _ _⟩⟩
        case measure => simp [intOf]; omega
    · have HXX := HX.out
      have hse : s = r := by omega
      subst hse
      obtain ⟨e, he⟩ : ∃ e : Nat, e + s = n := ⟨n - s, by omega⟩
      have f1 : (n : Int) - s = e := by omega
      have f2 : (m : Int) ≤ e := by omega
      have f3 : (e : Int) ≤ b := by omega
      have f4 : (a : Int) ≤ s := by omega
      have f5 : (s : Int) ≤ m := by omega
      have f6 : (s : Int) ≤ mid := by omega
      have f7 : (mid : Int) ≤ e := by omega
      have HPP := HP.out
      have HT : Hid (St.mg (ltOf cf) U V = St.mg (ltOf cf) (U.take (s - a)) (V.take (e - m)) ++ St.mg (ltOf cf) (U.drop (s - a)) (V.drop (e - m))) := by
        refine St.sym_cut HS.out.2.2 HS.out.1 HS.out.2.1 (s - a) (e - m) (by omega) (by omega) (fun u v h0 hu hv => ?_) (fun u v h0 hu hv => ?_)
        · by_cases hb0 : e < b
          · rcases HB.out.1 with h | h
            · omega
            · have e1 := HD.out.2.1 _ _ hu
              have e2 := HD.out.2.2 _ _ hv
              rw [show a + (s - a - 1) = s - 1 from by omega] at e1
              rw [show m + (e - m) = p - (s - 1) from by omega] at e2
              rw [e1, e2] at h
              exact h
          · rw [List.getElem?_eq_none (by omega)] at hv; cases hv
        · by_cases hb0 : s < m
          · rcases HB.out.2.1 with h | h
            · omega
            · have e1 := HD.out.2.1 _ _ hu
              have e2 := HD.out.2.2 _ _ hv
              rw [show a + (s - a) = s from by omega] at e1
              rw [show m + (e - m - 1) = p - s from by omega] at e2
              rw [e1, e2] at h
              exact h
          · rw [List.getElem?_eq_none (by omega)] at hu; cases hu
      obtain ⟨L1, L2, HC1, HN1, HC2, HN2, HC3, HN3⟩ := sym_tail (wr := wr) (cap := cap) (s := s) (e := e) (mid := mid) HR cf HP.out HS.out HI HT.out HB.out.2.2 (by omega) (by omega) (by omega) (by omega) (by omega) (by omega) (by omega) (by omega) (by omega) (by omega)
      clear HPP HT HB he HXX
      by_cases hX : (s : Int) < m
      all_goals by_cases hY : (m : Int) < e
      all_goals by_cases hA : (a : Int) < s
      all_goals by_cases hB : (e : Int) < b
      · first
        | (exfalso; omega)
        | (have g1 : (mid : Int) < e := by omega
           have g2 : (s : Int) < mid := by omega
           go_wp2_with fail
           refine (HC1.out (by omega) (by omega)).mono ?_
           rintro e w1 ⟨rfl, K1⟩
           go_wp2_with fail
           refine (HC2.out _ K1.out (by omega) (by omega)).mono ?_
           rintro e w2 ⟨rfl, K2⟩
           go_wp2_with fail
           refine (HC3.out _ K2.out (by omega) (by omega)).mono ?_
           rintro e w3 ⟨rfl, K3⟩
           go_wp2_with fail
           all_goals
             go_end0
             exact ⟨rfl, K3.out⟩)
      · first
        | (exfalso; omega)
        | (have g1 : (mid : Int) < e := by omega
           have g2 : (s : Int) < mid := by omega
           go_wp2_with fail
           refine (HC1.out (by omega) (by omega)).mono ?_
           rintro e w1 ⟨rfl, K1⟩
           go_wp2_with fail
           refine (HC2.out _ K1.out (by omega) (by omega)).mono ?_
           rintro e w2 ⟨rfl, K2⟩
           have K3 : Hid (SWK enc 8 w0 blk off (P ++ (St.mg (ltOf cf) U V ++ Z)).toArray w2) := by
             have h := K2.out
             rw [HN3.out (by omega)] at h
             exact h
           go_wp2_with fail
           all_goals
             go_end0
             exact ⟨rfl, K3.out⟩)
      · first
        | (exfalso; omega)
        | (have g1 : (mid : Int) < e := by omega
           have g2 : (s : Int) < mid := by omega
           go_wp2_with fail
           refine (HC1.out (by omega) (by omega)).mono ?_
           rintro e w1 ⟨rfl, K1⟩
           have K2 : Hid (SWK enc 8 w0 blk off L2.toArray w1) := by
             have h := K1.out
             rw [HN2.out (by omega)] at h
             exact h
           go_wp2_with fail
           refine (HC3.out _ K2.out (by omega) (by omega)).mono ?_
           rintro e w3 ⟨rfl, K3⟩
           go_wp2_with fail
           all_goals
             go_end0
             exact ⟨rfl, K3.out⟩)
      · first
        | (exfalso; omega)
        | (have g1 : (mid : Int) < e := by omega
           have g2 : (s : Int) < mid := by omega
           go_wp2_with fail
           refine (HC1.out (by omega) (by omega)).mono ?_
           rintro e w1 ⟨rfl, K1⟩
           have K2 : Hid (SWK enc 8 w0 blk off L2.toArray w1) := by
             have h := K1.out
             rw [HN2.out (by omega)] at h
             exact h
           have K3 : Hid (SWK enc 8 w0 blk off (P ++ (St.mg (ltOf cf) U V ++ Z)).toArray w1) := by
             have h := K2.out
             rw [HN3.out (by omega)] at h
             exact h
           go_wp2_with fail
           all_goals
             go_end0
             exact ⟨rfl, K3.out⟩)
      · first
        | (exfalso; omega)
        | (have g1 : (mid : Int) < e := by omega
           have g2 : ¬ (s : Int) < mid := by omega
           have K1 : Hid (SWK enc 8 w0 blk off L1.toArray wr) := HN1.out (by omega)
           have K2 : Hid (SWK enc 8 w0 blk off L2.toArray wr) := by
             have h := K1.out
             rw [HN2.out (by omega)] at h
             exact h
           go_wp2_with fail
           refine (HC3.out _ K2.out (by omega) (by omega)).mono ?_
           rintro e w3 ⟨rfl, K3⟩
           go_wp2_with fail
           all_goals
             go_end0
             exact ⟨rfl, K3.out⟩)
      · first
        | (exfalso; omega)
        | (have g1 : (mid : Int) < e := by omega
           have g2 : ¬ (s : Int) < mid := by omega
           have K1 : Hid (SWK enc 8 w0 blk off L1.toArray wr) := HN1.out (by omega)
           have K2 : Hid (SWK enc 8 w0 blk off L2.toArray wr) := by
             have h := K1.out
             rw [HN2.out (by omega)] at h
             exact h
           have K3 : Hid (SWK enc 8 w0 blk off (P ++ (St.mg (ltOf cf) U V ++ Z)).toArray wr) := by
             have h := K2.out
             rw [HN3.out (by omega)] at h
             exact h
           go_wp2_with fail
           all_goals
             go_end0
             exact ⟨rfl, K3.out⟩)
      · first
        | (exfalso; omega)
        | (have g1 : (mid : Int) < e := by omega
           have g2 : ¬ (s : Int) < mid := by omega
           have K1 : Hid (SWK enc 8 w0 blk off L1.toArray wr) := HN1.out (by omega)
           have K2 : Hid (SWK enc 8 w0 blk off L2.toArray wr) := by
             have h := K1.out
             rw [HN2.out (by omega)] at h
             exact h
           go_wp2_with fail
           refine (HC3.out _ K2.out (by omega) (by omega)).mono ?_
           rintro e w3 ⟨rfl, K3⟩
           go_wp2_with fail
           all_goals
             go_end0
             exact ⟨rfl, K3.out⟩)
      · first
        | (exfalso; omega)
        | (have g1 : (mid : Int) < e := by omega
           have g2 : ¬ (s : Int) < mid := by omega
           have K1 : Hid (SWK enc 8 w0 blk off L1.toArray wr) := HN1.out (by omega)
           have K2 : Hid (SWK enc 8 w0 blk off L2.toArray wr) := by
             have h := K1.out
             rw [HN2.out (by omega)] at h
             exact h
           have K3 : Hid (SWK enc 8 w0 blk off (P ++ (St.mg (ltOf cf) U V ++ Z)).toArray wr) := by
             have h := K2.out
             rw [HN3.out (by omega)] at h
             exact h
           go_wp2_with fail
           all_goals
             go_end0
             exact ⟨rfl, K3.out⟩)
      · first
        | (exfalso; omega)
        | (have g1 : ¬ (mid : Int) < e := by omega
           have g2 : (s : Int) < mid := by omega
           have K1 : Hid (SWK enc 8 w0 blk off L1.toArray wr) := HN1.out (by omega)
           go_wp2_with fail
           refine (HC2.out _ K1.out (by omega) (by omega)).mono ?_
           rintro e w2 ⟨rfl, K2⟩
           have K3 : Hid (SWK enc 8 w0 blk off (P ++ (St.mg (ltOf cf) U V ++ Z)).toArray w2) := by
             have h := K2.out
             rw [HN3.out (by omega)] at h
             exact h
           go_wp2_with fail
           all_goals
             go_end0
             exact ⟨rfl, K3.out⟩)
      · first
        | (exfalso; omega)
        | (have g1 : ¬ (mid : Int) < e := by omega
           have g2 : (s : Int) < mid := by omega
           have K1 : Hid (SWK enc 8 w0 blk off L1.toArray wr) := HN1.out (by omega)
           go_wp2_with fail
           refine (HC2.out _ K1.out (by omega) (by omega)).mono ?_
           rintro e w2 ⟨rfl, K2⟩
           have K3 : Hid (SWK enc 8 w0 blk off (P ++ (St.mg (ltOf cf) U V ++ Z)).toArray w2) := by
             have h := K2.out
             rw [HN3.out (by omega)] at h
             exact h
           go_wp2_with fail
           all_goals
             go_end0
             exact ⟨rfl, K3.out⟩)
      · first
        | (exfalso; omega)
        | (have g1 : ¬ (mid : Int) < e := by omega
           have g2 : (s : Int) < mid := by omega
           have K1 : Hid (SWK enc 8 w0 blk off L1.toArray wr) := HN1.out (by omega)
           have K2 : Hid (SWK enc 8 w0 blk off L2.toArray wr) := by
             have h := K1.out
             rw [HN2.out (by omega)] at h
             exact h
           have K3 : Hid (SWK enc 8 w0 blk off (P ++ (St.mg (ltOf cf) U V ++ Z)).toArray wr) := by
             have h := K2.out
             rw [HN3.out (by omega)] at h
             exact h
           go_wp2_with fail
           all_goals
             go_end0
             exact ⟨rfl, K3.out⟩)
      · first
        | (exfalso; omega)
        | (have g1 : ¬ (mid : Int) < e := by omega
           have g2 : (s : Int) < mid := by omega
           have K1 : Hid (SWK enc 8 w0 blk off L1.toArray wr) := HN1.out (by omega)
           have K2 : Hid (SWK enc 8 w0 blk off L2.toArray wr) := by
             have h := K1.out
             rw [HN2.out (by omega)] at h
             exact h
           have K3 : Hid (SWK enc 8 w0 blk off (P ++ (St.mg (ltOf cf) U V ++ Z)).toArray wr) := by
             have h := K2.out
             rw [HN3.out (by omega)] at h
             exact h
           go_wp2_with fail
           all_goals
             go_end0
             exact ⟨rfl, K3.out⟩)
      · first
        | (exfalso; omega)
        | (have g1 : ¬ (mid : Int) < e := by omega
           have g2 : ¬ (s : Int) < mid := by omega
           have K1 : Hid (SWK enc 8 w0 blk off L1.toArray wr) := HN1.out (by omega)
           have K2 : Hid (SWK enc 8 w0 blk off L2.toArray wr) := by
             have h := K1.out
             rw [HN2.out (by omega)] at h
             exact h
           have K3 : Hid (SWK enc 8 w0 blk off (P ++ (St.mg (ltOf cf) U V ++ Z)).toArray wr) := by
             have h := K2.out
             rw [HN3.out (by omega)] at h
             exact h
           go_wp2_with fail
           all_goals
             go_end0
             exact ⟨rfl, K3.out⟩)
      · first
        | (exfalso; omega)
        | (have g1 : ¬ (mid : Int) < e := by omega
           have g2 : ¬ (s : Int) < mid := by omega
           have K1 : Hid (SWK enc 8 w0 blk off L1.toArray wr) := HN1.out (by omega)
           have K2 : Hid (SWK enc 8 w0 blk off L2.toArray wr) := by
             have h := K1.out
             rw [HN2.out (by omega)] at h
             exact h
           have K3 : Hid (SWK enc 8 w0 blk off (P ++ (St.mg (ltOf cf) U V ++ Z)).toArray wr) := by
             have h := K2.out
             rw [HN3.out (by omega)] at h
             exact h
           go_wp2_with fail
           all_goals
             go_end0
             exact ⟨rfl, K3.out⟩)
      · first
        | (exfalso; omega)
        | (have g1 : ¬ (mid : Int) < e := by omega
           have g2 : ¬ (s : Int) < mid := by omega
           have K1 : Hid (SWK enc 8 w0 blk off L1.toArray wr) := HN1.out (by omega)
           have K2 : Hid (SWK enc 8 w0 blk off L2.toArray wr) := by
             have h := K1.out
             rw [HN2.out (by omega)] at h
             exact h
           have K3 : Hid (SWK enc 8 w0 blk off (P ++ (St.mg (ltOf cf) U V ++ Z)).toArray wr) := by
             have h := K2.out
             rw [HN3.out (by omega)] at h
             exact h
           go_wp2_with fail
           all_goals
             go_end0
             exact ⟨rfl, K3.out⟩)
      · first
        | (exfalso; omega)
        | (have g1 : ¬ (mid : Int) < e := by omega
           have g2 : ¬ (s : Int) < mid := by omega
           have K1 : Hid (SWK enc 8 w0 blk off L1.toArray wr) := HN1.out (by omega)
           have K2 : Hid (SWK enc 8 w0 blk off L2.toArray wr) := by
             have h := K1.out
             rw [HN2.out (by omega)] at h
             exact h
           have K3 : Hid (SWK enc 8 w0 blk off (P ++ (St.mg (ltOf cf) U V ++ Z)).toArray wr) := by
             have h := K2.out
             rw [HN3.out (by omega)] at h
             exact h
           go_wp2_with fail
           all_goals
             go_end0
             exact ⟨rfl, K3.out⟩)
end Go.Proofs.Ytdlipponajilbaa
