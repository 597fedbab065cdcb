/- assoc: the reference's New, walked. -/
import Derived.Test.YtnjdmkgkpdebdaaOS12
namespace Go.Proofs.Ytnjdmkgkpdebdaa
open Go Go.RowKit Go.Sort
set_option linter.unusedVariables false
theorem frame54 (A : Array Value) (h : A.size = 54) : ∃ v0 v1 v2 v3 v4 v5 v6 v7 v8 v9 v10 v11 v12 v13 v14 v15 v16 v17 v18 v19 v20 v21 v22 v23 v24 v25 v26 v27 v28 v29 v30 v31 v32 v33 v34 v35 v36 v37 v38 v39 v40 v41 v42 v43 v44 v45 v46 v47 v48 v49 v50 v51 v52 v53, A = (v0 :: v1 :: v2 :: v3 :: v4 :: v5 :: v6 :: v7 :: v8 :: v9 :: v10 :: v11 :: v12 :: v13 :: v14 :: v15 :: v16 :: v17 :: v18 :: v19 :: v20 :: v21 :: v22 :: v23 :: v24 :: v25 :: v26 :: v27 :: v28 :: v29 :: v30 :: v31 :: v32 :: v33 :: v34 :: v35 :: v36 :: v37 :: v38 :: v39 :: v40 :: v41 :: v42 :: v43 :: v44 :: v45 :: v46 :: v47 :: v48 :: v49 :: v50 :: v51 :: v52 :: v53 :: []).toArray := by
  have e : A = ((List.range 54).map (fun i => A.getD i undef)).toArray := by
    refine Array.ext (by simp [h]) fun i h1 h2 => ?_
    simp [Array.getD, h1]
  exact ⟨A.getD 0 undef, A.getD 1 undef, A.getD 2 undef, A.getD 3 undef, A.getD 4 undef, A.getD 5 undef, A.getD 6 undef, A.getD 7 undef, A.getD 8 undef, A.getD 9 undef, A.getD 10 undef, A.getD 11 undef, A.getD 12 undef, A.getD 13 undef, A.getD 14 undef, A.getD 15 undef, A.getD 16 undef, A.getD 17 undef, A.getD 18 undef, A.getD 19 undef, A.getD 20 undef, A.getD 21 undef, A.getD 22 undef, A.getD 23 undef, A.getD 24 undef, A.getD 25 undef, A.getD 26 undef, A.getD 27 undef, A.getD 28 undef, A.getD 29 undef, A.getD 30 undef, A.getD 31 undef, A.getD 32 undef, A.getD 33 undef, A.getD 34 undef, A.getD 35 undef, A.getD 36 undef, A.getD 37 undef, A.getD 38 undef, A.getD 39 undef, A.getD 40 undef, A.getD 41 undef, A.getD 42 undef, A.getD 43 undef, A.getD 44 undef, A.getD 45 undef, A.getD 46 undef, A.getD 47 undef, A.getD 48 undef, A.getD 49 undef, A.getD 50 undef, A.getD 51 undef, A.getD 52 undef, A.getD 53 undef, e.trans (congrArg List.toArray (by kernel_rfl))⟩
theorem nil_rt : Sem.run Try.prog (Instr.build 80 #[]) = fun w => .ok (.agg #[.slice none 0 0]) w := by
  funext w
  kernel_rfl
set_option maxRecDepth 20000 in
set_option maxHeartbeats 4000000 in
theorem rnew_any (cf : List Value) (av : Value) (ls mc : Bool) (xs : List As) (w : World) (hc : Cf cf av ls mc) (hr : Rk w.heap.size w 12 av (xs.map asL)) : Calls Try.prog 9 #[.agg cf.toArray] w fun e w' => ((nwE xs ≠ 0 ∧ e = .returned (.tuple #[.pointer none, .int .i64 (nwE xs)])) ∨ (nwE xs = 0 ∧ ∃ d, e = .returned (.tuple #[.pointer (some ⟨d, 0, none⟩), .int .i64 0]) ∧ Rt w' d w.heap.size (rnL xs) ∧ w.heap.size ≤ d)) ∧ Below w.heap.size w w' := by
  have HC : Hid (Cf cf av ls mc) := hc
  obtain ⟨ao, cap, hav, hcap, hrow⟩ := hr
  rw [List.length_map] at hav hrow
  obtain ⟨L, hL⟩ : ∃ L, xs.length = L := ⟨_, rfl⟩
  rw [hL] at hav hrow
  have HR : Hid (∀ i, i < L → ∃ ad, ao = some ad ∧ ad.block < w.heap.size ∧ ∀ j u, ((xs.map asL).getD i [])[j]? = some u → w.cell? (ad.add (i * 12 + j)) = some u) := hrow
  have HL : Hid (xs.length = L) := hL
  subst hav
  clear hc hcap hrow hL
  go_enter Try.func9, Try.ntmps9
  refine post_hid fun Q hQ => ?_
  refine seq_hid fun R hR => ?_
  go_wp2_with (refine step_boxL (by rfl) 29 _ rfl cf.toArray (by rfl) (fun u => by rfl) ?_; intro W1 g1 H1)
  rw [hR.out]
  clear hR
  have c0 : W1.cell? ⟨g1, 0, none⟩ = some (.slice ao L cap) := by rw [H1.out.bk.cell 0, List.getElem?_toArray]; exact HC.out.as0
  by_cases hbig : 16 < L
  · have HE : Hid (nwE xs = 120) := by show _ = _; unfold nwE; rw [HL.out, if_pos hbig]
    have hb2 : (16 : Int) < (L : Int) := by omega
    go_wp2_with fail
    rw [hQ.out]
    go_ret2
    exact ⟨.inl ⟨by rw [HE.out]; decide, by rw [HE.out]; rfl⟩, H1.out.be⟩
  have hb2 : (L : Int) ≤ 16 := by omega
  go_upto_region 4 with (first
    | (refine step_bdL (by rfl) 80 [] rfl [] (by rfl) (.agg #[.slice none 0 0]) (by rw [nil_rt]) ?_)
    | (refine step_boxL (by rfl) 80 _ rfl #[.slice none 0 0] (by rfl) (fun u => by rfl) ?_; intro W2 d H2))
  have H3 : Hid (Rt W2 d w.heap.size (rnL []) ∧ Below w.heap.size w W2 ∧ w.heap.size ≤ d) := by
    refine ⟨⟨⟨_, H2.out.bk, ?_, fun b hb => by cases hb⟩, rn_len []⟩, below_thru H1.out.be H2.out.be, by rw [H2.out.at']; exact H1.out.be.size⟩
    have : rnL [] = [] := rows_none _ fun x hx => by
      obtain ⟨j, hj⟩ := List.getElem?_of_mem hx
      cases x with
      | none => rfl
      | some m => exact absurd hj (nil_at j m)
    rw [this]
    exact OR.nil _ _ _ _
  have d0 : W2.cell? ⟨g1, 0, none⟩ = some (.slice ao L cap) := by rw [(H2.out.other H1.out.bk).cell 0, List.getElem?_toArray]; exact HC.out.as0
  have HD : Hid (w.heap.size ≤ d) := H3.out.2.2
  clear H1 H2 c0
  go_wp2_with fail
  go_loopw [18] (fun i wr => ∃ (k : Nat), i = .int .i64 k ∧ (k : Int) ≤ L ∧ Hid (Rt wr d w.heap.size (rnL (xs.take k)) ∧ Below w.heap.size w wr ∧ dupB [] xs = dupB (xs.take k) (xs.drop k))) (fun i _ => 16 - (intOf i).toNat)
  case atStart => exact ⟨0, rfl, by omega, ⟨by simpa using H3.out.1, H3.out.2.1, rfl⟩⟩
  case round =>
    obtain ⟨k, rfl, hk, HI⟩ := hrel
    clear H3 d0
    by_cases hlt : (k : Int) < L
    · obtain ⟨ad, g1', g2', g3'⟩ := HR.out k (by omega)
      have hix := ix_as L cap k g1' hlt
      have hkl : k < xs.length := by rw [HL.out]; omega
      obtain ⟨a, ha⟩ : ∃ a, a = xs[k] := ⟨_, rfl⟩
      have HA : Hid (xs[k]? = some a) := by show _ = _; rw [List.getElem?_eq_getElem hkl, ha]
      have HDr : Hid (xs.drop k = a :: xs.drop (k + 1)) := by show _ = _; rw [ha]; exact List.drop_eq_getElem_cons hkl
      have HTk : Hid (xs.take (k + 1) = xs.take k ++ [a]) := by show _ = _; rw [ha]; exact List.take_succ_eq_append_getElem hkl
      have HS : Hid (∀ j u, (asL a)[j]? = some u → wr.cell? ((ad.add (k * 12)).add j) = some u) := fun j u hu => by
        rw [add_add, HI.out.2.1.cell (p := ad.add (k * 12 + j)) (by rw [add_block]; exact g2')]
        refine g3' j u ?_
        rw [List.getD_eq_getElem?_getD, List.getElem?_map, HA.out]
        exact hu
      clear g1' g2' g3' ha hkl
      go_upto_region 7 with (first
        | (refine step_ldat 41 _ rfl rfl (ad.add (k * 12)) (by rfl) (asL a) _ Try.underlying41 rfl (by kernel_rfl) HS.out ?_)
        | (refine step_alL (by rfl) 41 rfl (asL zAs).toArray (fun u => by kernel_rfl) ?_; intro w3 g H3)
        | (refine step_stL (by rfl) _ _ rfl g (asL a).toArray (by rfl) (by rfl) (asL zAs).toArray (by kernel_rfl) (by kernel_rfl) (by kernel_rfl) H3.out.bk ?_; intro w4 H4))
      have H5 : Hid (Rt w4 d w.heap.size (rnL (xs.take k)) ∧ Below w.heap.size w w4 ∧ Bk g w4 (asL a).toArray 41) := by
        have hb := H4.out.below H3.out.be H3.out.be.size (Nat.le_of_eq H3.out.at'.symm)
        exact ⟨HI.out.1.below hb, below_thru HI.out.2.1 hb, H4.out.bk⟩
      clear H3 H4 HS hix
      obtain ⟨ao2, cap2, hb5, hr5⟩ := H5.out.1.read
      obtain ⟨l, hl⟩ : ∃ l, l = rnL (xs.take k) := ⟨_, rfl⟩
      rw [← hl] at hb5 hr5
      have HLl : Hid (l = rnL (xs.take k)) := hl
      obtain ⟨n, hn⟩ : ∃ n, l.length = n := ⟨_, rfl⟩
      rw [hn] at hb5
      have HN : Hid (l.length = n) := hn
      have hn16 : (n : Int) ≤ 16 := by have := rn_len (xs.take k); rw [← hl, hn] at this; omega
      have HR5 : Hid (∀ w', Below w4.heap.size w4 w' → ∀ i m, l[i]? = some m → ∃ ad, ao2 = some ad ∧ ∀ j u, (mbL m)[j]? = some u → w'.cell? ((ad.add (i * 16)).add j) = some u) := hr5
      have e0 : w4.cell? ⟨d, 0, none⟩ = some (.slice ao2 n cap2) := hb5.cell 0
      have hll : Hid ((xs.take k).length ≤ 16) := by show _ ≤ _; rw [List.length_take]; omega
      clear hl hn hb5 hr5
      go_wp2_with fail
      go_loopw [28] (fun i wr => ∃ (j : Nat), i = .int .i64 j ∧ (j : Int) ≤ n ∧ Hid (Below w4.heap.size w4 wr ∧ (l.take j).any (fun m => clB m.ac a) = false)) (fun i _ => n - (intOf i).toNat)
      case atStart => exact ⟨0, rfl, by omega, ⟨Below.refl _ _, rfl⟩⟩
      case round =>
        obtain ⟨j, rfl, hj, HB⟩ := hrel
        by_cases hjl : (j : Int) < n
        · have hkl : j < l.length := by rw [HN.out]; omega
          obtain ⟨m, hm⟩ : ∃ m, l[j]? = some m := ⟨_, List.getElem?_eq_getElem hkl⟩
          obtain ⟨ad2, q1, q3⟩ := HR5.out wr HB.out.1 j m hm
          have hix := ix_rw n cap2 j q1 hjl
          have HS : Hid (∀ j' u, (mbL m)[j']? = some u → wr.cell? ((ad2.add (j * 16)).add j') = some u) := q3
          have HM : Hid (l[j]? = some m ∧ l.take (j + 1) = l.take j ++ [m]) := ⟨hm, by rw [List.take_succ_eq_append_getElem hkl]; rw [List.getElem?_eq_getElem hkl] at hm; rw [Option.some.inj hm]⟩
          clear q1 q3 hm hkl e0
          go_upto_region 10 with (first
            | (refine step_ldat 83 _ rfl rfl (ad2.add (j * 16)) (by rfl) (mbL m) _ Try.underlying83 rfl (by kernel_rfl) HS.out ?_)
            | (refine step_alL (by rfl) 83 rfl (mbL zMb).toArray (fun u => by kernel_rfl) ?_; intro w5 h5 H6)
            | (refine step_stL (by rfl) _ _ rfl h5 (mbL m).toArray (by rfl) (by rfl) (mbL zMb).toArray (by kernel_rfl) (by kernel_rfl) (by kernel_rfl) H6.out.bk ?_; intro w6 H7))
          have H8 : Hid (Below w4.heap.size w4 w6 ∧ Bk h5 w6 (mbL m).toArray 83 ∧ Bk g w6 (asL a).toArray 41) := by
            have hb := below_thru HB.out.1 (H7.out.below H6.out.be H6.out.be.size (Nat.le_of_eq H6.out.at'.symm))
            exact ⟨hb, H7.out.bk, H5.out.2.2.kept (hb.block _ H5.out.2.2.lt)⟩
          clear H6 H7 HS
          obtain ⟨X, hX⟩ : ∃ X, clB m.ac a = X := ⟨_, rfl⟩
          have HXX : Hid (clB m.ac a = X) := hX
          have CC : Hid (Calls Try.prog 23 #[.agg (asL m.ac).toArray, .agg (asL a).toArray] w6 fun e w' => e = .returned (.bool X) ∧ Below w6.heap.size w6 w') := by rw [← hX]; exact clash_any m.ac a w6
          clear hX
          have HA1 : Hid (∀ j u, (asL m.ac)[j]? = some u → w6.cell? ((⟨h5, 1, none⟩ : Addr).add j) = some u) := as_in H8.out.2.1
          have HA2 : Hid (∀ j u, (asL a)[j]? = some u → w6.cell? ((⟨g, 0, none⟩ : Addr).add j) = some u) := cells_of (l := asL a) H8.out.2.2
          cases X
          · go_wp2_with (first
              | (refine step_ldat 41 _ rfl rfl ⟨h5, 1, none⟩ (by rfl) (asL m.ac) _ Try.underlying41 rfl (by kernel_rfl) HA1.out ?_)
              | (refine step_ldat 41 _ rfl rfl ⟨g, 0, none⟩ (by rfl) (asL a) _ Try.underlying41 rfl (by kernel_rfl) HA2.out ?_)
              | (go_at_call 23; refine CC.out.mono ?_; rintro e w7 ⟨rfl, hb7⟩))
            go_roundw
            case rel =>
              refine ⟨j + 1, by go_num, by omega, ⟨below_thru H8.out.1 hb7, ?_⟩⟩
              rw [HM.out.2, List.any_append, HB.out.2]
              simp [HXX.out]
            case measure => simp [intOf]; omega
          · have HE : Hid (nwE xs = 53) := by
              show _ = _
              have hany : (xs.take k).any (fun b => clB b a) = true := by
                rw [← rn_any xs k hll.out a, ← HLl.out]
                exact List.any_eq_true.2 ⟨m, List.mem_of_getElem? HM.out.1, HXX.out⟩
              unfold nwE
              rw [if_neg (by rw [HL.out]; omega), if_pos]
              rw [HI.out.2.2, HDr.out, dupB, if_pos hany]
            go_wp2_with (first
              | (refine step_ldat 41 _ rfl rfl ⟨h5, 1, none⟩ (by rfl) (asL m.ac) _ Try.underlying41 rfl (by kernel_rfl) HA1.out ?_)
              | (refine step_ldat 41 _ rfl rfl ⟨g, 0, none⟩ (by rfl) (asL a) _ Try.underlying41 rfl (by kernel_rfl) HA2.out ?_)
              | (go_at_call 23; refine CC.out.mono ?_; rintro e w7 ⟨rfl, hb7⟩))
            rw [hQ.out]
            go_ret2
            exact ⟨.inl ⟨by rw [HE.out]; decide, by rw [HE.out]; rfl⟩, below_thru H5.out.2.1 (below_thru H8.out.1 hb7)⟩
        · have hany : (l.any (fun m => clB m.ac a)) = false := by
            have h1 := HB.out.2
            rw [List.take_of_length_le (by rw [HN.out]; omega)] at h1
            exact h1
          have HK2 : Hid ((xs.take k).any (fun b => clB b a) = false) := by show _ = _; rw [← rn_any xs k hll.out a, ← HLl.out]; exact hany
          clear hany
          obtain ⟨w8, hw8⟩ : ∃ w8, w8 = wr := ⟨_, rfl⟩
          subst hw8
          have HB8 : Hid (Below w4.heap.size w4 w8) := HB.out.1
          go_wp2_with fail
          have hRt := H5.out.1.below HB8.out
          obtain ⟨V, b1, b2, b3⟩ := hRt.ex
          have hrl := rn_len (xs.take k)
          refine ap_region (d := d) (ga := g) (B := w.heap.size) (V := V) (rows := (rnL (xs.take k)).map mbL) (k := (k : Int)) (c := a) (by kernel_rfl) (by rfl) ⟨by rfl, by rfl, by rfl, b1, H5.out.2.2.kept (HB8.out.block _ H5.out.2.2.lt), b2.drew, b3, HD.out, Int.natCast_nonneg k, by omega, by rw [List.length_map]; exact hrl⟩ ?_
          intro a' w' hsz hdf hkept hv' hbel
          obtain ⟨tm, df⟩ := a'
          simp only at hsz hdf hkept
          obtain ⟨v0, v1, v2, v3, v4, v5, v6, v7, v8, v9, v10, v11, v12, v13, v14, v15, v16, v17, v18, v19, v20, v21, v22, v23, v24, v25, v26, v27, v28, v29, v30, v31, v32, v33, v34, v35, v36, v37, v38, v39, v40, v41, v42, v43, v44, v45, v46, v47, v48, v49, v50, v51, v52, v53, rfl⟩ := frame54 tm hsz
          have HFin : Hid (Rt w' d w.heap.size (rnL (xs.take (k + 1))) ∧ Below w.heap.size w w') := by
            obtain ⟨v', k1, k2, k3⟩ := hv'
            refine ⟨⟨⟨v', k1, ?_, k3⟩, rn_len _⟩, ?_⟩
            · rw [rn_step xs k a (by omega) HA.out, List.map_append]
              exact k2
            · exact (below_thru H5.out.2.1 HB8.out).trans hbel
          clear hv' hbel hsz b1 b2 b3 hRt
          have f0 := hkept 0 (by omega)
          simp only [Array.getD_eq_getD_getElem?, List.getElem?_toArray, List.getElem?_cons_zero, Option.getD_some] at f0
          subst f0
          have f1 := hkept 1 (by omega)
          simp only [Array.getD_eq_getD_getElem?, List.getElem?_toArray, List.getElem?_cons_succ, List.getElem?_cons_zero, Option.getD_some] at f1
          subst f1
          have f2 := hkept 2 (by omega)
          simp only [Array.getD_eq_getD_getElem?, List.getElem?_toArray, List.getElem?_cons_succ, List.getElem?_cons_zero, Option.getD_some] at f2
          subst f2
          have f3 := hkept 3 (by omega)
          simp only [Array.getD_eq_getD_getElem?, List.getElem?_toArray, List.getElem?_cons_succ, List.getElem?_cons_zero, Option.getD_some] at f3
          subst f3
          have f4 := hkept 4 (by omega)
          simp only [Array.getD_eq_getD_getElem?, List.getElem?_toArray, List.getElem?_cons_succ, List.getElem?_cons_zero, Option.getD_some] at f4
          subst f4
          have f5 := hkept 5 (by omega)
          simp only [Array.getD_eq_getD_getElem?, List.getElem?_toArray, List.getElem?_cons_succ, List.getElem?_cons_zero, Option.getD_some] at f5
          subst f5
          have f6 := hkept 6 (by omega)
          simp only [Array.getD_eq_getD_getElem?, List.getElem?_toArray, List.getElem?_cons_succ, List.getElem?_cons_zero, Option.getD_some] at f6
          subst f6
          have f7 := hkept 7 (by omega)
          simp only [Array.getD_eq_getD_getElem?, List.getElem?_toArray, List.getElem?_cons_succ, List.getElem?_cons_zero, Option.getD_some] at f7
          subst f7
          have f8 := hkept 8 (by omega)
          simp only [Array.getD_eq_getD_getElem?, List.getElem?_toArray, List.getElem?_cons_succ, List.getElem?_cons_zero, Option.getD_some] at f8
          subst f8
          have f9 := hkept 9 (by omega)
          simp only [Array.getD_eq_getD_getElem?, List.getElem?_toArray, List.getElem?_cons_succ, List.getElem?_cons_zero, Option.getD_some] at f9
          subst f9
          have f10 := hkept 10 (by omega)
          simp only [Array.getD_eq_getD_getElem?, List.getElem?_toArray, List.getElem?_cons_succ, List.getElem?_cons_zero, Option.getD_some] at f10
          subst f10
          have f11 := hkept 11 (by omega)
          simp only [Array.getD_eq_getD_getElem?, List.getElem?_toArray, List.getElem?_cons_succ, List.getElem?_cons_zero, Option.getD_some] at f11
          subst f11
          have f12 := hkept 12 (by omega)
          simp only [Array.getD_eq_getD_getElem?, List.getElem?_toArray, List.getElem?_cons_succ, List.getElem?_cons_zero, Option.getD_some] at f12
          subst f12
          have f13 := hkept 13 (by omega)
          simp only [Array.getD_eq_getD_getElem?, List.getElem?_toArray, List.getElem?_cons_succ, List.getElem?_cons_zero, Option.getD_some] at f13
          subst f13
          have f14 := hkept 14 (by omega)
          simp only [Array.getD_eq_getD_getElem?, List.getElem?_toArray, List.getElem?_cons_succ, List.getElem?_cons_zero, Option.getD_some] at f14
          subst f14
          have f15 := hkept 15 (by omega)
          simp only [Array.getD_eq_getD_getElem?, List.getElem?_toArray, List.getElem?_cons_succ, List.getElem?_cons_zero, Option.getD_some] at f15
          subst f15
          have f16 := hkept 16 (by omega)
          simp only [Array.getD_eq_getD_getElem?, List.getElem?_toArray, List.getElem?_cons_succ, List.getElem?_cons_zero, Option.getD_some] at f16
          subst f16
          have f17 := hkept 17 (by omega)
          simp only [Array.getD_eq_getD_getElem?, List.getElem?_toArray, List.getElem?_cons_succ, List.getElem?_cons_zero, Option.getD_some] at f17
          subst f17
          have f18 := hkept 18 (by omega)
          simp only [Array.getD_eq_getD_getElem?, List.getElem?_toArray, List.getElem?_cons_succ, List.getElem?_cons_zero, Option.getD_some] at f18
          subst f18
          have f19 := hkept 19 (by omega)
          simp only [Array.getD_eq_getD_getElem?, List.getElem?_toArray, List.getElem?_cons_succ, List.getElem?_cons_zero, Option.getD_some] at f19
          subst f19
          have f20 := hkept 20 (by omega)
          simp only [Array.getD_eq_getD_getElem?, List.getElem?_toArray, List.getElem?_cons_succ, List.getElem?_cons_zero, Option.getD_some] at f20
          subst f20
          have f21 := hkept 21 (by omega)
          simp only [Array.getD_eq_getD_getElem?, List.getElem?_toArray, List.getElem?_cons_succ, List.getElem?_cons_zero, Option.getD_some] at f21
          subst f21
          have f22 := hkept 22 (by omega)
          simp only [Array.getD_eq_getD_getElem?, List.getElem?_toArray, List.getElem?_cons_succ, List.getElem?_cons_zero, Option.getD_some] at f22
          subst f22
          have f23 := hkept 23 (by omega)
          simp only [Array.getD_eq_getD_getElem?, List.getElem?_toArray, List.getElem?_cons_succ, List.getElem?_cons_zero, Option.getD_some] at f23
          subst f23
          have f24 := hkept 24 (by omega)
          simp only [Array.getD_eq_getD_getElem?, List.getElem?_toArray, List.getElem?_cons_succ, List.getElem?_cons_zero, Option.getD_some] at f24
          subst f24
          have f25 := hkept 25 (by omega)
          simp only [Array.getD_eq_getD_getElem?, List.getElem?_toArray, List.getElem?_cons_succ, List.getElem?_cons_zero, Option.getD_some] at f25
          subst f25
          have f26 := hkept 26 (by omega)
          simp only [Array.getD_eq_getD_getElem?, List.getElem?_toArray, List.getElem?_cons_succ, List.getElem?_cons_zero, Option.getD_some] at f26
          subst f26
          have f27 := hkept 27 (by omega)
          simp only [Array.getD_eq_getD_getElem?, List.getElem?_toArray, List.getElem?_cons_succ, List.getElem?_cons_zero, Option.getD_some] at f27
          subst f27
          have f28 := hkept 28 (by omega)
          simp only [Array.getD_eq_getD_getElem?, List.getElem?_toArray, List.getElem?_cons_succ, List.getElem?_cons_zero, Option.getD_some] at f28
          subst f28
          have f29 := hkept 29 (by omega)
          simp only [Array.getD_eq_getD_getElem?, List.getElem?_toArray, List.getElem?_cons_succ, List.getElem?_cons_zero, Option.getD_some] at f29
          subst f29
          have f30 := hkept 30 (by omega)
          simp only [Array.getD_eq_getD_getElem?, List.getElem?_toArray, List.getElem?_cons_succ, List.getElem?_cons_zero, Option.getD_some] at f30
          subst f30
          have f31 := hkept 31 (by omega)
          simp only [Array.getD_eq_getD_getElem?, List.getElem?_toArray, List.getElem?_cons_succ, List.getElem?_cons_zero, Option.getD_some] at f31
          subst f31
          have f32 := hkept 32 (by omega)
          simp only [Array.getD_eq_getD_getElem?, List.getElem?_toArray, List.getElem?_cons_succ, List.getElem?_cons_zero, Option.getD_some] at f32
          subst f32
          have f33 := hkept 33 (by omega)
          simp only [Array.getD_eq_getD_getElem?, List.getElem?_toArray, List.getElem?_cons_succ, List.getElem?_cons_zero, Option.getD_some] at f33
          subst f33
          have f34 := hkept 34 (by omega)
          simp only [Array.getD_eq_getD_getElem?, List.getElem?_toArray, List.getElem?_cons_succ, List.getElem?_cons_zero, Option.getD_some] at f34
          subst f34
          have f35 := hkept 35 (by omega)
          simp only [Array.getD_eq_getD_getElem?, List.getElem?_toArray, List.getElem?_cons_succ, List.getElem?_cons_zero, Option.getD_some] at f35
          subst f35
          have f36 := hkept 36 (by omega)
          simp only [Array.getD_eq_getD_getElem?, List.getElem?_toArray, List.getElem?_cons_succ, List.getElem?_cons_zero, Option.getD_some] at f36
          subst f36
          have f37 := hkept 37 (by omega)
          simp only [Array.getD_eq_getD_getElem?, List.getElem?_toArray, List.getElem?_cons_succ, List.getElem?_cons_zero, Option.getD_some] at f37
          subst f37
          have f52 := hkept 52 (by omega)
          simp only [Array.getD_eq_getD_getElem?, List.getElem?_toArray, List.getElem?_cons_succ, List.getElem?_cons_zero, Option.getD_some] at f52
          subst f52
          have f53 := hkept 53 (by omega)
          simp only [Array.getD_eq_getD_getElem?, List.getElem?_toArray, List.getElem?_cons_succ, List.getElem?_cons_zero, Option.getD_some] at f53
          subst f53
          clear hkept
          have hdf2 : df = [] := hdf
          subst hdf2
          go_wp2_with fail
          go_roundw
          case rel =>
            refine ⟨k + 1, by go_num, by omega, ⟨HFin.out.1, HFin.out.2, ?_⟩⟩
            rw [HI.out.2.2, HDr.out, dupB, if_neg (by rw [HK2.out]; decide), HTk.out]
          case measure => simp [intOf]; omega
    · have HE : Hid (nwE xs = 0 ∧ xs.take k = xs) := by
        have e1 : xs.take k = xs := List.take_of_length_le (by rw [HL.out]; omega)
        have e2 : xs.drop k = [] := List.drop_eq_nil_of_le (by rw [HL.out]; omega)
        refine ⟨?_, e1⟩
        unfold nwE
        rw [if_neg (by rw [HL.out]; omega), if_neg]
        rw [HI.out.2.2, e2, dupB]
        decide
      go_wp2_with fail
      rw [hQ.out]
      go_ret2
      have h1 := HI.out.1
      rw [HE.out.2] at h1
      exact ⟨.inr ⟨HE.out.1, d, rfl, h1, HD.out⟩, HI.out.2.1⟩
end Go.Proofs.Ytnjdmkgkpdebdaa
