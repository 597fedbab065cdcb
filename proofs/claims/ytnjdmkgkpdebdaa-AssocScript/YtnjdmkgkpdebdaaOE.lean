/- assoc: the reference's Add, its rows put together. -/
import Derived.Test.YtnjdmkgkpdebdaaOD
namespace Go.Proofs.Ytnjdmkgkpdebdaa
open Go Go.RowKit Go.Sort
set_option linter.unusedVariables false
def dropSeq' : Nat → Code → Code
  | 0, c => c
  | n + 1, .seq _ c => dropSeq' n c
  | _, c => c
def raFill (f : Go.Func) : Code := dropSeq' 8 (f.body.getD .skip)
theorem filt_take {α : Type} (p : α → Bool) {l : List α} {k : Nat} {m : α} (h : l[k]? = some m) : (l.take (k + 1)).filter p = (l.take k).filter p ++ (if p m = true then [m] else []) := by
  have hk : k < l.length := by
    rcases Nat.lt_or_ge k l.length with h' | h'
    · exact h'
    · rw [List.getElem?_eq_none h'] at h; cases h
  rw [List.take_succ_eq_append_getElem hk, List.filter_append]
  rw [List.getElem?_eq_getElem hk] at h
  rw [Option.some.inj h]
  congr 1
  by_cases hp : p m = true <;> simp [hp]
set_option maxRecDepth 40000 in
set_option maxHeartbeats 4000000 in
theorem ra_fill {c : Code} (hcode : c = (raFill Try.f24)) {v1 v2 v3 v4 v5 v6 v7 v8 v9 v10 v11 v14 v15 v16 v17 v18 v19 v20 v21 v22 v23 v24 v25 v26 v27 v28 v29 v30 v31 v32 v33 v34 v35 v36 v37 v38 v39 v40 v41 v42 v43 v44 v45 v46 v47 v48 v49 v50 v51 v52 v53 v54 v55 v56 v57 v58 v59 v60 v61 v62 v63 v64 v65 v66 v67 v68 v69 v70 v71 v72 v73 v74 v75 v76 v77 v78 v79 v80 v81 v82 v83 v84 v85 v86 v87 v88 v89 v90 v91 v92 v93 v94 v95 v96 v97 v98 v99 v100 v101 v102 v103 v104 v105 v106 v107 v108 v109 v110 v111 v112 v113 v114 v115 v116 v117 v118 v119 v120 : Value} (df : List Deferred) (W : World) (d B g F : Nat) (l : List Mb) (m0 : Mb) (K : Exit → Act → World → Prop) (hz : m0.hops = 0) (hT : Rt W d B l) (hB : B ≤ W.heap.size) (hg : Bk g W (enL m0).toArray 81) (hlen : (lowR l F ++ [m0] ++ topR l F).length ≤ 16)
    (hend : ∀ tm' W', tm'.getD 8 undef = .int .i64 (F : Int) → tm'.getD 9 undef = .int .i64 0 → Rt W' d B (lowR l F ++ [m0] ++ topR l F) → W.grownBy W' (some d) → K .ret { tmps := tm', defers := df } W') : Code.wp Try.prog c K { tmps := ((Value.pointer (some ⟨d, 0, none⟩)) :: v1 :: v2 :: v3 :: v4 :: v5 :: v6 :: v7 :: v8 :: v9 :: v10 :: v11 :: (Value.int .i64 (F : Int)) :: (Value.pointer (some ⟨g, 0, none⟩)) :: v14 :: v15 :: v16 :: v17 :: v18 :: v19 :: v20 :: v21 :: v22 :: v23 :: v24 :: v25 :: v26 :: v27 :: v28 :: v29 :: v30 :: v31 :: v32 :: v33 :: v34 :: v35 :: v36 :: v37 :: v38 :: v39 :: v40 :: v41 :: v42 :: v43 :: v44 :: v45 :: v46 :: v47 :: v48 :: v49 :: v50 :: v51 :: v52 :: v53 :: v54 :: v55 :: v56 :: v57 :: v58 :: v59 :: v60 :: v61 :: v62 :: v63 :: v64 :: v65 :: v66 :: v67 :: v68 :: v69 :: v70 :: v71 :: v72 :: v73 :: v74 :: v75 :: v76 :: v77 :: v78 :: v79 :: v80 :: v81 :: v82 :: v83 :: v84 :: v85 :: v86 :: v87 :: v88 :: v89 :: v90 :: v91 :: v92 :: v93 :: v94 :: v95 :: v96 :: v97 :: v98 :: v99 :: v100 :: v101 :: v102 :: v103 :: v104 :: v105 :: v106 :: v107 :: v108 :: v109 :: v110 :: v111 :: v112 :: v113 :: v114 :: v115 :: v116 :: v117 :: v118 :: v119 :: v120 :: []).toArray, defers := df } W := by
  have HE : Hid (∀ tm' W', tm'.getD 8 undef = .int .i64 (F : Int) → tm'.getD 9 undef = .int .i64 0 → Rt W' d B (lowR l F ++ [m0] ++ topR l F) → W.grownBy W' (some d) → K .ret { tmps := tm', defers := df } W') := hend
  obtain ⟨ao, cap, hb, hr⟩ := hT.read
  have HR : Hid (∀ w', Below W.heap.size W w' → ∀ i m, l[i]? = some m → ∃ ad, ao = some ad ∧ ∀ j u, (mbL m)[j]? = some u → w'.cell? ((ad.add (i * 16)).add j) = some u) := hr
  obtain ⟨n, hn⟩ : ∃ n, l.length = n := ⟨_, rfl⟩
  have HN : Hid (l.length = n) := hn
  have hn16 : (n : Int) ≤ 16 := by have := hT.len; omega
  rw [hn] at hb
  have HX : Hid (Bk d W #[.slice ao n cap] 80 ∧ B ≤ W.heap.size ∧ d < W.heap.size ∧ (lowR l F ++ [m0] ++ topR l F).length ≤ 16 ∧ m0.hops = 0 ∧ Bk g W (enL m0).toArray 81) := ⟨hb, hB, hb.lt, hlen, hz, hg⟩
  have HC0 : Hid (∀ wr, Below W.heap.size W wr → wr.cell? ⟨d, 0, none⟩ = some (.slice ao n cap)) := fun wr hw => (Bk.kept hb (hw.block _ hb.lt)).cell 0
  clear hend hr hn hb hT hB hg hlen hz
  subst hcode
  unfold raFill Try.f24
  simp only [dropSeq', Option.getD_some]
  have c0 := HC0.out W (Below.refl _ _)
  refine seq_hid fun R hR => ?_
  go_wp2_with fail
  rw [hR.out]
  clear hR
  refine seq_hid fun R hR => ?_
  go_wp2_with fail
  go_loopw [14, 78] (fun v i wr => ∃ (k : Nat), i = .int .i64 k ∧ (k : Int) ≤ n ∧ Hid (OR wr W.heap.size 83 16 v ((lowR (l.take k) F).map mbL) ∧ Below W.heap.size W wr)) (fun _ i _ => n - (intOf i).toNat)
  case atStart => exact ⟨0, rfl, by omega, ⟨OR.nil _ _ _ _, Below.refl _ _⟩⟩
  case round =>
    obtain ⟨k, rfl, hk, HB⟩ := hrel
    obtain ⟨v14', hv14⟩ : ∃ v, v = u14 := ⟨_, rfl⟩
    subst hv14
    by_cases hlt : (k : Int) < n
    · have hkl : k < l.length := by rw [HN.out]; omega
      obtain ⟨m, hm⟩ : ∃ m, l[k]? = some m := ⟨_, List.getElem?_eq_getElem hkl⟩
      obtain ⟨ad, g1, g3⟩ := HR.out wr HB.out.2 k m hm
      have hix := ix_rw n cap k g1 hlt
      have HS : Hid (∀ j u, (mbL m)[j]? = some u → wr.cell? ((ad.add (k * 16)).add j) = some u) := g3
      have HK : Hid ((l.take (k + 1)).filter (fun m : Mb => decide (m.id < (F : Int))) = (l.take k).filter (fun m : Mb => decide (m.id < (F : Int))) ++ (if (fun m : Mb => decide (m.id < (F : Int))) m = true then [m] else [])) := filt_take _ hm
      have HLn : Hid (((lowR (l.take k) F).map mbL).length ≤ 40) := by
        show _ ≤ _
        have h1 := filt_len (fun m : Mb => decide (m.id < (F : Int))) (l.take k)
        have h2 := filt_len (fun m : Mb => decide (m.id < (F : Int))) l
        have h0 := HN.out
        rw [List.length_take] at h1
        rw [List.length_map]
        unfold lowR
        omega
      clear g1 g3 hm hkl c0
      go_upto_region 21 with (first
        | (refine step_ldat 83 _ rfl rfl (ad.add (k * 16)) (by rfl) (mbL m) _ Try.underlying83 rfl (by kernel_rfl) HS.out ?_)
        | (refine step_alL (by rfl) 83 rfl (mbL zMb).toArray (fun u => by kernel_rfl) ?_; intro w3 h3 H3)
        | (refine step_stL (by rfl) _ _ rfl h3 (mbL m).toArray (by rfl) (by rfl) (mbL zMb).toArray (by kernel_rfl) (by kernel_rfl) (by kernel_rfl) H3.out.bk ?_; intro w4 H4))
      have H5 : Hid (OR w4 W.heap.size 83 16 v14' ((lowR (l.take k) F).map mbL) ∧ Below W.heap.size W w4 ∧ Bk h3 w4 (mbL m).toArray 83) := by
        have hb := H4.out.below H3.out.be H3.out.be.size (Nat.le_of_eq H3.out.at'.symm)
        exact ⟨HB.out.1.below hb (Nat.le_refl _), below_thru HB.out.2 hb, H4.out.bk⟩
      clear H3 H4 HS HB
      have d0 : w4.cell? ⟨h3, 0, none⟩ = some (.int .i64 m.id) := H5.out.2.2.cell 0
      have HSm : Hid (∀ j u, (mbL m)[j]? = some u → w4.cell? ((⟨h3, 0, none⟩ : Addr).add j) = some u) := cells_of (l := mbL m) H5.out.2.2
      by_cases hc : m.id < (F : Int)
      · have HF : Hid (lowR (l.take (k + 1)) F = lowR (l.take k) F ++ [m]) := by
          show _ = _
          have h1 := HK.out
          rw [if_pos (decide_eq_true hc)] at h1
          unfold lowR topR at *
          rw [h1]
          try simp only [List.append_assoc]
        go_wp2_with (first
          | (refine step_ldat 83 _ rfl rfl ⟨h3, 0, none⟩ (by rfl) (mbL m) _ Try.underlying83 rfl (by kernel_rfl) HSm.out ?_)
          | (refine step_bsL (by rfl) 78 83 _ rfl (.agg (mbL m).toArray) (mbL m) (by rfl) (run_bsRw m) ?_; intro w6 g6 H7)
          | (at_builtin; refine step_apL tiRw rfl _ _ rfl W.heap.size g6 v14' (mbL m) (by rfl) (by rfl) rfl (mbL_one m) w4 _ ?_ ?_ H5.out.1 H7.out H5.out.2.1.size ?_; (have := HLn.out; simp only [maxLen]; omega); (have := HLn.out; omega); intro v7 w7 H8))
        go_roundw
        case rel =>
          refine ⟨k + 1, by go_num, by omega, ⟨?_, H5.out.2.1.trans H8.out.2⟩⟩
          rw [HF.out, List.map_append]
          exact H8.out.1
        case measure => simp [intOf]; omega
      · have HF : Hid (lowR (l.take (k + 1)) F = lowR (l.take k) F) := by
          show _ = _
          have h1 := HK.out
          rw [if_neg (by show ¬ decide _ = true; rw [decide_eq_false hc]; decide), List.append_nil] at h1
          unfold lowR topR at *
          rw [h1]
        go_wp2_with fail
        go_roundw
        case rel =>
          refine ⟨k + 1, by go_num, by omega, ⟨?_, H5.out.2.1⟩⟩
          rw [HF.out]
          exact H5.out.1
        case measure => simp [intOf]; omega
    · have HE1 : Hid (l.take k = l) := List.take_of_length_le (by rw [HN.out]; omega)
      go_wp2_with fail
      rw [hR.out]
      clear hR
      obtain ⟨w5, hw5⟩ : ∃ w5, w5 = wr := ⟨_, rfl⟩
      subst hw5
      have H6 : Hid (OR w5 W.heap.size 83 16 v14' ((lowR l F).map mbL) ∧ Below W.heap.size W w5 ∧ Bk g w5 (enL m0).toArray 81) := by
        have h1 := HB.out
        rw [HE1.out] at h1
        exact ⟨h1.1, h1.2, HX.out.2.2.2.2.2.kept (h1.2.block _ HX.out.2.2.2.2.2.lt)⟩
      have HLn : Hid (((lowR l F).map mbL).length ≤ 16) := by
        show _ ≤ _
        have := HX.out.2.2.2.1
        rw [List.length_map]
        simp only [List.length_append, List.length_cons, List.length_nil] at this
        omega
      have HSe : Hid (∀ j u, (enL m0)[j]? = some u → w5.cell? ((⟨g, 0, none⟩ : Addr).add j) = some u) := cells_of (l := enL m0) H6.out.2.2
      clear c0 hk hlt HB HE1
      refine seq_hid fun R hR => ?_
      go_wp2_with (first
        | (refine step_ldat 81 _ rfl rfl ⟨g, 0, none⟩ (by rfl) (enL m0) _ Try.underlying81 rfl (by kernel_rfl) HSe.out ?_)
        | (refine step_bdL (by rfl) 83 [(0, .tmp 93)] rfl [(0, .agg (enL m0).toArray)] (by rfl) (.agg (mbL m0).toArray) (run_buildRw m0 HX.out.2.2.2.2.1 _) ?_)
        | (refine step_bsL (by rfl) 78 83 _ rfl (.agg (mbL m0).toArray) (mbL m0) (by rfl) (run_bsRw m0) ?_; intro w6 g6 H7)
        | (at_builtin; refine step_apL tiRw rfl _ _ rfl W.heap.size g6 v14' (mbL m0) (by rfl) (by rfl) rfl (mbL_one m0) w5 _ ?_ ?_ H6.out.1 H7.out H6.out.2.1.size ?_; (have := HLn.out; simp only [maxLen]; omega); (have := HLn.out; omega); intro v7 w7 H8))
      rw [hR.out]
      clear hR
      have H9 : Hid (OR w7 W.heap.size 83 16 v7 ((lowR l F ++ [m0]).map mbL) ∧ Below W.heap.size W w7) := by
        rw [List.map_append]
        exact ⟨H8.out.1, H6.out.2.1.trans H8.out.2⟩
      clear H6 H7 H8 HLn HSe
      have c0 := HC0.out w7 H9.out.2
      refine seq_hid fun R hR => ?_
      go_wp2_with fail
      go_loopw [14, 102] (fun v i wr => ∃ (k : Nat), i = .int .i64 k ∧ (k : Int) ≤ n ∧ Hid (OR wr W.heap.size 83 16 v ((lowR l F ++ [m0] ++ topR (l.take k) F).map mbL) ∧ Below W.heap.size W wr)) (fun _ i _ => n - (intOf i).toNat)
      case atStart => exact ⟨0, rfl, by omega, ⟨by simpa [topR] using H9.out.1, H9.out.2⟩⟩
      case round =>
        obtain ⟨k, rfl, hk, HB⟩ := hrel
        obtain ⟨v14'', hv14⟩ : ∃ v, v = u14 := ⟨_, rfl⟩
        subst hv14
        by_cases hlt : (k : Int) < n
        · have hkl : k < l.length := by rw [HN.out]; omega
          obtain ⟨m, hm⟩ : ∃ m, l[k]? = some m := ⟨_, List.getElem?_eq_getElem hkl⟩
          obtain ⟨ad, g1, g3⟩ := HR.out wr HB.out.2 k m hm
          have hix := ix_rw n cap k g1 hlt
          have HS : Hid (∀ j u, (mbL m)[j]? = some u → wr.cell? ((ad.add (k * 16)).add j) = some u) := g3
          have HK : Hid ((l.take (k + 1)).filter (fun m : Mb => decide ((F : Int) < m.id)) = (l.take k).filter (fun m : Mb => decide ((F : Int) < m.id)) ++ (if (fun m : Mb => decide ((F : Int) < m.id)) m = true then [m] else [])) := filt_take _ hm
          have HLn : Hid (((lowR l F ++ [m0] ++ topR (l.take k) F).map mbL).length ≤ 40) := by
            show _ ≤ _
            have h1 := filt_len (fun m : Mb => decide ((F : Int) < m.id)) (l.take k)
            have h2 := filt_len (fun m : Mb => decide (m.id < (F : Int))) l
            have h0 := HN.out
            rw [List.length_take] at h1
            rw [List.length_map]
            rw [List.length_append, List.length_append, List.length_singleton]; unfold lowR topR
            omega
          clear g1 g3 hm hkl c0
          go_upto_region 28 with (first
            | (refine step_ldat 83 _ rfl rfl (ad.add (k * 16)) (by rfl) (mbL m) _ Try.underlying83 rfl (by kernel_rfl) HS.out ?_)
            | (refine step_alL (by rfl) 83 rfl (mbL zMb).toArray (fun u => by kernel_rfl) ?_; intro w3 h3 H3)
            | (refine step_stL (by rfl) _ _ rfl h3 (mbL m).toArray (by rfl) (by rfl) (mbL zMb).toArray (by kernel_rfl) (by kernel_rfl) (by kernel_rfl) H3.out.bk ?_; intro w4 H4))
          have H5 : Hid (OR w4 W.heap.size 83 16 v14'' ((lowR l F ++ [m0] ++ topR (l.take k) F).map mbL) ∧ Below W.heap.size W w4 ∧ Bk h3 w4 (mbL m).toArray 83) := by
            have hb := H4.out.below H3.out.be H3.out.be.size (Nat.le_of_eq H3.out.at'.symm)
            exact ⟨HB.out.1.below hb (Nat.le_refl _), below_thru HB.out.2 hb, H4.out.bk⟩
          clear H3 H4 HS HB
          have d0 : w4.cell? ⟨h3, 0, none⟩ = some (.int .i64 m.id) := H5.out.2.2.cell 0
          have HSm : Hid (∀ j u, (mbL m)[j]? = some u → w4.cell? ((⟨h3, 0, none⟩ : Addr).add j) = some u) := cells_of (l := mbL m) H5.out.2.2
          by_cases hc : (F : Int) < m.id
          · have HF : Hid (lowR l F ++ [m0] ++ topR (l.take (k + 1)) F = lowR l F ++ [m0] ++ topR (l.take k) F ++ [m]) := by
              show _ = _
              have h1 := HK.out
              rw [if_pos (decide_eq_true hc)] at h1
              unfold lowR topR at *
              rw [h1]
              try simp only [List.append_assoc]
            go_wp2_with (first
              | (refine step_ldat 83 _ rfl rfl ⟨h3, 0, none⟩ (by rfl) (mbL m) _ Try.underlying83 rfl (by kernel_rfl) HSm.out ?_)
              | (refine step_bsL (by rfl) 78 83 _ rfl (.agg (mbL m).toArray) (mbL m) (by rfl) (run_bsRw m) ?_; intro w6 g6 H7)
              | (at_builtin; refine step_apL tiRw rfl _ _ rfl W.heap.size g6 v14'' (mbL m) (by rfl) (by rfl) rfl (mbL_one m) w4 _ ?_ ?_ H5.out.1 H7.out H5.out.2.1.size ?_; (have := HLn.out; simp only [maxLen]; omega); (have := HLn.out; omega); intro v7 w7 H8))
            go_roundw
            case rel =>
              refine ⟨k + 1, by go_num, by omega, ⟨?_, H5.out.2.1.trans H8.out.2⟩⟩
              rw [HF.out, List.map_append]
              exact H8.out.1
            case measure => simp [intOf]; omega
          · have HF : Hid (lowR l F ++ [m0] ++ topR (l.take (k + 1)) F = lowR l F ++ [m0] ++ topR (l.take k) F) := by
              show _ = _
              have h1 := HK.out
              rw [if_neg (by show ¬ decide _ = true; rw [decide_eq_false hc]; decide), List.append_nil] at h1
              unfold lowR topR at *
              rw [h1]
            go_wp2_with fail
            go_roundw
            case rel =>
              refine ⟨k + 1, by go_num, by omega, ⟨?_, H5.out.2.1⟩⟩
              rw [HF.out]
              exact H5.out.1
            case measure => simp [intOf]; omega
        · have HE1 : Hid (l.take k = l) := List.take_of_length_le (by rw [HN.out]; omega)
          go_wp2_with fail
          rw [hR.out]
          clear hR
          obtain ⟨w8, hw8⟩ : ∃ w8, w8 = wr := ⟨_, rfl⟩
          subst hw8
          have HB2 : Hid (OR w8 W.heap.size 83 16 v14'' ((lowR l F ++ [m0] ++ topR l F).map mbL) ∧ Below W.heap.size W w8) := by
            have h1 := HB.out
            rw [HE1.out] at h1
            exact h1
          have HD1 : Hid (Bk d w8 #[.slice ao n cap] 80) := HX.out.1.kept (HB2.out.2.block _ HX.out.1.lt)
          obtain ⟨o5, n5, p5, hv5⟩ : ∃ o n p, v14'' = .slice o n p := by
            obtain ⟨o, p, h⟩ := or_len HB2.out.1
            exact ⟨o, _, p, h⟩
          subst hv5
          clear c0 HB HE1 hk hlt
          go_wp2_with (refine step_st1 (by rfl) _ _ rfl d 0 (.slice o5 n5 p5) (by rfl) (by rfl) rfl (by kernel_rfl) rfl [.slice ao n cap] (by simp) HD1.out ?_; intro w9 H10)
          have ne : (Value.slice o5 n5 p5).ownBlock ≠ some d := fun he => by
            have := (HB2.out.1.ownlt d he).1
            have := HX.out.2.2.1
            omega
          refine HE.out _ _ (by rfl) (by rfl) ⟨⟨_, H10.out.bk, (HB2.out.1.mod H10.out.gr ne).mono HX.out.2.1, fun b hb => ?_⟩, HX.out.2.2.2.1⟩ (grownBy_trans (grownBy_below HB2.out.2 _) H10.out.gr)
          have := (HB2.out.1.ownlt b hb).1
          have := HX.out.2.2.1
          omega
end Go.Proofs.Ytnjdmkgkpdebdaa
