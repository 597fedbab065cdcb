/- choose: the reference's Survivors. -/
import Derived.Test.YtepbbaeamlimaaaUV
import Derived.Test.YtepbbaeamlimaaaUJ
namespace Go.Proofs.Ytepbbaeamlimaaa
open Go Go.RowKit Go.Sort Ch Pu
set_option linter.unusedVariables false
set_option maxRecDepth 20000 in
set_option maxHeartbeats 2000000 in
theorem rsurvivors_any (v : Value) (l : List Cn) (w : World) (N : Nat) (h : Rk N w 7 v (l.map cnL)) (hN : N ≤ w.heap.size) (hl : l.length ≤ 1000000) : Calls Try.prog 20 #[v] w fun e w' => ∃ u, e = .returned u ∧ Hid (OR w' w.heap.size 26 7 u ((sv l).map cnL)) ∧ Hid (Below w.heap.size w w') := by
  have H0 : Hid (Rk N w 7 v (l.map cnL) ∧ N ≤ w.heap.size ∧ l.length ≤ 1000000) := ⟨h, hN, hl⟩
  obtain ⟨o, ho⟩ : ∃ o, mtL l = o := ⟨_, rfl⟩
  have HC : Hid (Calls Try.prog 19 #[v] w fun e w' => e = .returned (.tuple #[.int .i64 (mA o), .int .i64 (mB o), .bool o.isSome]) ∧ Hid (Below w.heap.size w w')) := by rw [← ho]; exact rmeet_any v l w N h hN hl
  have HO : Hid (mtL l = o) := ho
  clear h hN hl ho
  obtain ⟨T, hT⟩ : ∃ T, th l = T := ⟨_, rfl⟩
  have HT : Hid (th l = T ∧ T.length ≤ 64 ∧ ∀ c ∈ T, ct c = true) := ⟨hT, by rw [← hT]; exact th_len l, fun c hc => by rw [← hT] at hc; exact th_ct hc⟩
  obtain ⟨m, hm⟩ : ∃ m, T.length = m := ⟨_, rfl⟩
  have HM : Hid (T.length = m) := hm
  have hm64 : (m : Int) ≤ 64 := by have := HT.out.2.1; omega
  have HTh : Hid (∀ u, Below w.heap.size w u → Calls Try.prog 32 #[v] u fun e w' => ∃ x, e = .returned x ∧ Hid (OR w' u.heap.size 26 7 x (T.map cnL)) ∧ Hid (Below u.heap.size u w')) := fun u hu => by
    rw [← HT.out.1]
    exact those_any v l u N (H0.out.1.below hu H0.out.2.1) (Nat.le_trans H0.out.2.1 hu.size) H0.out.2.2
  cases o with
  | none =>
    have HZ : Hid (sv l = []) := sv_none HO.out
    clear hm hT HO
    have HC2 : Hid (Calls Try.prog 19 #[v] w fun e w' => e = .returned (.tuple #[.int .i64 0, .int .i64 0, .bool false]) ∧ Hid (Below w.heap.size w w')) := HC.out
    clear HC
    go_enter Try.func20, Try.ntmps20
    refine post_hid fun Q hQ => ?_
    go_upto_region 2 with (go_at_call 19; refine HC2.out.mono ?_; rintro e w1 ⟨rfl, H2⟩)
    go_upto_region 3 with (fail)
    refine world_hid fun W hW => ?_
    have HB : Hid (Below w1.heap.size w1 W ∧ OR W w1.heap.size 26 7 (.slice (some ⟨w1.heap.size, 0, none⟩) 0 0) (([] : List Cn).map cnL)) := by
      rw [hW.out]
      exact ⟨(Below.refl _ _).alloc (Nat.le_refl _) _, OR.fresh _ _ _ _ (Nat.le_refl _)⟩
    clear hW
    have HC3 : Hid (Calls Try.prog 32 #[v] W fun e w' => ∃ x, e = .returned x ∧ Hid (OR w' W.heap.size 26 7 x (T.map cnL)) ∧ Hid (Below W.heap.size W w')) := HTh.out W (below_thru H2.out HB.out.1)
    go_wp2_with (go_at_call 32; refine HC3.out.mono ?_; rintro e w2 ⟨u1, rfl, H3, H4⟩; obtain ⟨ao, cap, hu1⟩ := or_len H3.out; rw [List.length_map, HM.out] at hu1; subst hu1)
    have HE : Hid (OR w2 w.heap.size 26 7 (.slice (some ⟨w1.heap.size, 0, none⟩) 0 0) ((sv l).map cnL) ∧ Below w.heap.size w w2) := by
      rw [HZ.out]
      exact ⟨(HB.out.2.below H4.out (Nat.le_refl _)).mono H2.out.size, below_thru H2.out (below_thru HB.out.1 H4.out)⟩
    clear H3 H4 HB HC3 H2
    go_loopw [6, 8] (fun v6 i wr => v6 = .slice (some ⟨w1.heap.size, 0, none⟩) 0 0 ∧ i = .int .i64 0 ∧ wr = w2) (fun _ _ _ => 0)
    case atStart => exact ⟨rfl, rfl, rfl⟩
    case round =>
      obtain ⟨rfl, rfl, hwr⟩ := hrel
      subst hwr
      by_cases hlt : (0 : Int) < m
      · go_wp2_with fail
        rw [hQ.out]
        go_ret
        exact ⟨_, rfl, HE.out.1, HE.out.2⟩
      · have hm0 : m = 0 := by omega
        subst hm0
        go_wp2_with fail
        rw [hQ.out]
        go_ret
        exact ⟨_, rfl, HE.out.1, HE.out.2⟩
  | some r =>
    obtain ⟨p, q⟩ := r
    obtain ⟨A, hA⟩ : ∃ A, p * 65536 = A := ⟨_, rfl⟩
    obtain ⟨B, hB⟩ : ∃ B, q * 65536 = B := ⟨_, rfl⟩
    have HS : Hid (sv l = T.filter (svB A B)) := by rw [← hA, ← hB, ← hT]; exact sv_mt HO.out
    have HC2 : Hid (Calls Try.prog 19 #[v] w fun e w' => e = .returned (.tuple #[.int .i64 A, .int .i64 B, .bool true]) ∧ Hid (Below w.heap.size w w')) := by rw [← hA, ← hB]; exact HC.out
    clear HC hA hB HO hm hT
    go_enter Try.func20, Try.ntmps20
    refine post_hid fun Q hQ => ?_
    go_upto_region 2 with (go_at_call 19; refine HC2.out.mono ?_; rintro e w1 ⟨rfl, H2⟩)
    go_upto_region 3 with (fail)
    refine world_hid fun W hW => ?_
    have HB : Hid (Below w1.heap.size w1 W ∧ OR W w1.heap.size 26 7 (.slice (some ⟨w1.heap.size, 0, none⟩) 0 0) (([] : List Cn).map cnL) ∧ W.heap.size = w1.heap.size + 1) := by
      rw [hW.out]
      exact ⟨(Below.refl _ _).alloc (Nat.le_refl _) _, OR.fresh _ _ _ _ (Nat.le_refl _), size_alloc1 _ _⟩
    clear hW
    have HC3 : Hid (Calls Try.prog 32 #[v] W fun e w' => ∃ x, e = .returned x ∧ Hid (OR w' W.heap.size 26 7 x (T.map cnL)) ∧ Hid (Below W.heap.size W w')) := HTh.out W (below_thru H2.out HB.out.1)
    go_wp2_with (go_at_call 32; refine HC3.out.mono ?_; rintro e w2 ⟨u1, rfl, H3, H4⟩; obtain ⟨ao, cap, hu1⟩ := or_len H3.out; rw [List.length_map, HM.out] at hu1; subst hu1)
    have HB2 : Hid (Below w.heap.size w w2 ∧ w1.heap.size ≤ w2.heap.size ∧ w.heap.size ≤ w1.heap.size) := ⟨below_thru H2.out (below_thru HB.out.1 H4.out), Nat.le_trans HB.out.1.size H4.out.size, H2.out.size⟩
    have HB3 : Hid (OR w2 w1.heap.size 26 7 (.slice (some ⟨w1.heap.size, 0, none⟩) 0 0) (([] : List Cn).map cnL) ∧ OR w2 w1.heap.size 26 7 (.slice ao m cap) (T.map cnL) ∧ Dj (.slice (some ⟨w1.heap.size, 0, none⟩) 0 0) (.slice ao m cap)) := by
      refine ⟨HB.out.2.1.below H4.out (Nat.le_refl _), H3.out.mono HB.out.1.size, Or.inr fun e => ?_⟩
      have h1 := (H3.out.ownlt w1.heap.size (e.trans rfl)).1
      have := HB.out.2.2
      omega
    clear HC3 HC2 HB H2 H3 H4 HTh H0
    go_loopw [6, 8] (fun v6 i wr => ∃ (k : Nat), i = .int .i64 k ∧ (k : Int) ≤ m ∧ Hid (OR wr w1.heap.size 26 7 v6 (((T.take k).filter (svB A B)).map cnL) ∧ OR wr w1.heap.size 26 7 (.slice ao m cap) (T.map cnL) ∧ Dj v6 (.slice ao m cap) ∧ Below w1.heap.size w2 wr)) (fun _ i _ => m - (intOf i).toNat)
    case atStart => exact ⟨0, rfl, by omega, ⟨HB3.out.1, HB3.out.2.1, HB3.out.2.2, Below.refl _ _⟩⟩
    case round =>
      obtain ⟨k, rfl, hk, HB⟩ := hrel
      obtain ⟨v6, hv6⟩ : ∃ v6, v6 = u6 := ⟨_, rfl⟩
      subst hv6
      clear HB3
      by_cases hlt : (k : Int) < m
      · have hkl : k < T.length := by rw [HM.out]; omega
        obtain ⟨c, hc⟩ : ∃ c, T[k]? = some c := ⟨_, List.getElem?_eq_getElem hkl⟩
        obtain ⟨ao', cap', hv', _, hr⟩ := cands_read HB.out.2.1.rk
        rw [HM.out] at hv'
        obtain ⟨rfl, rfl⟩ : ao = ao' ∧ cap = cap' := by injection hv' with a b c; exact ⟨a, c⟩
        obtain ⟨ad, g1, _, g3⟩ := hr wr (fun _ _ => rfl) k c hc
        have hix := ix_C m cap k g1 hlt
        obtain ⟨al, hal⟩ : ∃ al, ad.add (k * 7) = al := ⟨_, rfl⟩
        rw [hal] at hix g3
        have HSl : Hid (∀ j u, (cnL c)[j]? = some u → wr.cell? (al.add j) = some u) := g3
        have HK : Hid ((T.take (k + 1)).filter (svB A B) = (T.take k).filter (svB A B) ++ if svB A B c = true then [c] else []) := svB_snoc hc
        have HLn : Hid ((((T.take k).filter (svB A B)).map cnL).length ≤ 64) := by
          show _ ≤ _
          rw [List.length_map]
          have h1 := List.length_filter_le (svB A B) (T.take k)
          rw [List.length_take] at h1
          have := HT.out.2.1
          omega
        obtain ⟨_, _, b2, b3⟩ := ct_iff.1 (HT.out.2.2 c (List.mem_of_getElem? hc))
        obtain ⟨co, hco⟩ : ∃ co, c.o = co := ⟨_, rfl⟩
        obtain ⟨D, hD⟩ : ∃ D, co / 65536 = D := ⟨_, rfl⟩
        have HX : Hid (svB A B c = decide (A ≤ D * 65536 ∧ D * 65536 ≤ B)) := by show _ = _; unfold svB mi; rw [hco, hD]
        have c1 : wr.cell? ⟨al.block, al.off + 1, none⟩ = some (.int .i64 co) := by rw [← hco]; exact g3 1 _ rfl
        rw [hco] at b2 b3
        have d0 : -17592186044417 ≤ D := by omega
        have d1 : D ≤ 17592186044416 := by omega
        have CD : Hid (∀ u, Calls Try.prog 33 #[.int .i64 co] u fun e w' => e = .returned (.int .i64 D) ∧ w' = u) := fun u => by rw [← hD]; exact down_any co (by omega) (by omega) u
        clear g1 g3 hc hkl hal hr hv' hco hD b2 b3
        by_cases hx1 : A ≤ D * 65536
        · by_cases hx2 : D * 65536 ≤ B
          · have HT2 : Hid ((T.take (k + 1)).filter (svB A B) = (T.take k).filter (svB A B) ++ [c]) := by
              have := HK.out
              rw [HX.out, if_pos (by simp; omega)] at this
              exact this
            go_wp2_with (first
              | (go_at_call 33; refine (CD.out wr).mono ?_; rintro e w9 ⟨rfl, hw9⟩; rw [hw9]; clear hw9)
              | (refine step_ldat 26 _ rfl rfl al (by rfl) (cnL c) _ Try.underlying26 rfl (by kernel_rfl) HSl.out ?_)
              | (refine step_bsL (by rfl) 22 26 _ rfl (.agg (cnL c).toArray) (cnL c) (by rfl) (run_bsC c) ?_; intro w6 g6 H7)
              | (at_builtin; refine step_ap2 tiC rfl _ _ rfl w1.heap.size g6 v6 (.slice ao m cap) (cnL c) (by rfl) (by rfl) rfl (cnL_one c) wr _ _ ?_ ?_ HB.out.1 HB.out.2.1 HB.out.2.2.1 H7.out (Nat.le_trans HB2.out.2.1 HB.out.2.2.2.size) ?_; (have := HLn.out; simp only [maxLen]; omega); (have := HLn.out; omega); intro v7 w7 H8))
            go_roundw
            case rel =>
              refine ⟨k + 1, by go_num, by omega, ?_, H8.out.2.1, H8.out.2.2.1, HB.out.2.2.2.trans H8.out.2.2.2⟩
              rw [HT2.out, List.map_append]
              exact H8.out.1
            case measure => (simp [intOf]; try omega)
          · have HT2 : Hid ((T.take (k + 1)).filter (svB A B) = (T.take k).filter (svB A B)) := by
              have := HK.out
              rw [HX.out, if_neg (by simp; omega), List.append_nil] at this
              exact this
            go_wp2_with (go_at_call 33; refine (CD.out wr).mono ?_; rintro e w9 ⟨rfl, hw9⟩; rw [hw9]; clear hw9)
            go_roundw
            case rel =>
              refine ⟨k + 1, by go_num, by omega, ?_, HB.out.2⟩
              rw [HT2.out]; exact HB.out.1
            case measure => (simp [intOf]; try omega)
        · have HT2 : Hid ((T.take (k + 1)).filter (svB A B) = (T.take k).filter (svB A B)) := by
            have := HK.out
            rw [HX.out, if_neg (by simp; omega), List.append_nil] at this
            exact this
          go_wp2_with (go_at_call 33; refine (CD.out wr).mono ?_; rintro e w9 ⟨rfl, hw9⟩; rw [hw9]; clear hw9)
          go_roundw
          case rel =>
            refine ⟨k + 1, by go_num, by omega, ?_, HB.out.2⟩
            rw [HT2.out]; exact HB.out.1
          case measure => (simp [intOf]; try omega)
      · have HE : Hid (T.take k = T) := List.take_of_length_le (by rw [HM.out]; omega)
        go_wp2_with fail
        rw [hQ.out]
        go_ret
        have h1 := HB.out.1
        rw [HE.out, ← HS.out] at h1
        exact ⟨_, rfl, h1.mono HB2.out.2.2, HB2.out.1.trans (HB.out.2.2.2.mono HB2.out.2.2)⟩
end Go.Proofs.Ytepbbaeamlimaaa
