/- assoc: the reference's Add, whole. -/
import Derived.Test.YtnjdmkgkpdebdaaOF
namespace Go.Proofs.Ytnjdmkgkpdebdaa
open Go Go.RowKit Go.Sort
set_option linter.unusedVariables false
def tlE (l : List Mb) (a : As) : Int := if l.any (fun m => clB m.ac a) = true then 53 else if 16 ≤ l.length then 120 else 0
def tlR (l : List Mb) (a : As) (par now : Int) (F : Nat) : List Mb := if tlE l a = 0 then lowR l F ++ [raM F a par now] ++ topR l F else l
theorem idM_none {l : List Mb} {id : Int} (h : idM id l = none) : ∀ m ∈ l, m.id ≠ id := by
  induction l with
  | nil => intro m hm; cases hm
  | cons n t ih =>
    rw [idM] at h
    split at h
    · cases h
    · rename_i hn
      intro m hm
      rcases List.mem_cons.1 hm with rfl | hm
      · exact hn
      · exact ih h m hm
theorem ra_len (l : List Mb) (a : As) (par now : Int) (F : Nat) (hf : idM (F : Int) l = none) : (lowR l F ++ [raM F a par now] ++ topR l F).length = l.length + 1 := by
  have h := idM_none hf
  have e : ∀ l : List Mb, (∀ m ∈ l, m.id ≠ (F : Int)) → (lowR l F).length + (topR l F).length = l.length := by
    intro l
    induction l with
    | nil => intro _; rfl
    | cons n t ih =>
      intro h
      have h1 := ih fun m hm => h m (by simp [hm])
      have h2 := h n (by simp)
      unfold lowR topR at *
      rw [List.filter_cons, List.filter_cons]
      by_cases hc : n.id < (F : Int)
      · have hd : ¬ (F : Int) < n.id := by omega
        rw [decide_eq_true hc, decide_eq_false hd]
        simp only [if_true, List.length_cons]
        simp
        omega
      · have hd : (F : Int) < n.id := by omega
        rw [decide_eq_false hc, decide_eq_true hd]
        simp
        omega
  have h1 := e l h
  rw [List.length_append, List.length_append, List.length_singleton]
  omega
set_option maxRecDepth 40000 in
set_option maxHeartbeats 4000000 in
theorem ra_tail {c : Code} (hcode : c = (raTail Try.f24)) {v1 v4 v6 v7 v8 v9 v10 v11 v12 v13 v14 v15 v16 v17 v18 v19 v20 v21 v22 v23 v24 v25 v26 v27 v28 v29 v30 v31 v32 v33 v34 v35 v36 v37 v38 v39 v40 v41 v42 v43 v44 v45 v46 v47 v48 v49 v50 v51 v52 v53 v54 v55 v56 v57 v58 v59 v60 v61 v62 v63 v64 v65 v66 v67 v68 v69 v70 v71 v72 v73 v74 v75 v76 v77 v78 v79 v80 v81 v82 v83 v84 v85 v86 v87 v88 v89 v90 v91 v92 v93 v94 v95 v96 v97 v98 v99 v100 v101 v102 v103 v104 v105 v106 v107 v108 v109 v110 v111 v112 v113 v114 v115 v116 v117 v118 v119 v120 : Value} (df : List Deferred) (W : World) (d B g F : Nat) (l : List Mb) (a : As) (par now : Int) (K : Exit → Act → World → Prop) (hT : Rt W d B l) (hB : B ≤ W.heap.size) (hg : Bk g W (asL a).toArray 41) (hF : tlE l a = 0 → Lf l F) (hn : -9223372036854775808 ≤ now)
    (hend : ∀ tm' W', tm'.getD 8 undef = .int .i64 (if tlE l a = 0 then (F : Int) else 0) → tm'.getD 9 undef = .int .i64 (tlE l a) → Rt W' d B (tlR l a par now F) → W.grownBy W' (some d) → K .ret { tmps := tm', defers := df } W') : Code.wp Try.prog c K { tmps := ((Value.pointer (some ⟨d, 0, none⟩)) :: v1 :: (Value.int .i64 par) :: (Value.int .i64 now) :: v4 :: (Value.pointer (some ⟨g, 0, none⟩)) :: v6 :: v7 :: v8 :: v9 :: v10 :: v11 :: v12 :: v13 :: v14 :: v15 :: v16 :: v17 :: v18 :: v19 :: v20 :: v21 :: v22 :: v23 :: v24 :: v25 :: v26 :: v27 :: v28 :: v29 :: v30 :: v31 :: v32 :: v33 :: v34 :: v35 :: v36 :: v37 :: v38 :: v39 :: v40 :: v41 :: v42 :: v43 :: v44 :: v45 :: v46 :: v47 :: v48 :: v49 :: v50 :: v51 :: v52 :: v53 :: v54 :: v55 :: v56 :: v57 :: v58 :: v59 :: v60 :: v61 :: v62 :: v63 :: v64 :: v65 :: v66 :: v67 :: v68 :: v69 :: v70 :: v71 :: v72 :: v73 :: v74 :: v75 :: v76 :: v77 :: v78 :: v79 :: v80 :: v81 :: v82 :: v83 :: v84 :: v85 :: v86 :: v87 :: v88 :: v89 :: v90 :: v91 :: v92 :: v93 :: v94 :: v95 :: v96 :: v97 :: v98 :: v99 :: v100 :: v101 :: v102 :: v103 :: v104 :: v105 :: v106 :: v107 :: v108 :: v109 :: v110 :: v111 :: v112 :: v113 :: v114 :: v115 :: v116 :: v117 :: v118 :: v119 :: v120 :: []).toArray, defers := df } W := by
  have HE : Hid (∀ tm' W', tm'.getD 8 undef = .int .i64 (if tlE l a = 0 then (F : Int) else 0) → tm'.getD 9 undef = .int .i64 (tlE l a) → Rt W' d B (tlR l a par now F) → W.grownBy W' (some d) → K .ret { tmps := tm', defers := df } W') := hend
  have HX : Hid (Rt W d B l ∧ B ≤ W.heap.size ∧ Bk g W (asL a).toArray 41 ∧ (tlE l a = 0 → Lf l F)) := ⟨hT, hB, hg, hF⟩
  obtain ⟨ao, cap, hb, hr⟩ := hT.read
  have HR : Hid (∀ w', Below W.heap.size W w' → ∀ i m, l[i]? = some m → ∃ ad, ao = some ad ∧ ∀ j u, (mbL m)[j]? = some u → w'.cell? ((ad.add (i * 16)).add j) = some u) := hr
  obtain ⟨n, hn'⟩ : ∃ n, l.length = n := ⟨_, rfl⟩
  have HN : Hid (l.length = n) := hn'
  have hn16 : (n : Int) ≤ 16 := by have := hT.len; omega
  rw [hn'] at hb
  have HC0 : Hid (∀ wr, Below W.heap.size W wr → wr.cell? ⟨d, 0, none⟩ = some (.slice ao n cap)) := fun wr hw => (Bk.kept hb (hw.block _ hb.lt)).cell 0
  clear hend hT hB hg hF hr hn' hb
  subst hcode
  unfold raTail Try.f24
  simp only [dropSeq', Option.getD_some]
  have c0 := HC0.out W (Below.refl _ _)
  refine seq_hid fun R hR => ?_
  go_wp2_with fail
  go_loopw [32] (fun i wr => ∃ (k : Nat), i = .int .i64 k ∧ (k : Int) ≤ n ∧ Hid (Below W.heap.size W wr ∧ (l.take k).any (fun m => clB m.ac a) = false)) (fun i _ => n - (intOf i).toNat)
  case atStart => exact ⟨0, rfl, by omega, ⟨Below.refl _ _, rfl⟩⟩
  case round =>
    obtain ⟨k, rfl, hk, HB⟩ := hrel
    by_cases hlt : (k : Int) < n
    · have hkl : k < l.length := by rw [HN.out]; omega
      obtain ⟨m, hm⟩ : ∃ m, l[k]? = some m := ⟨_, List.getElem?_eq_getElem hkl⟩
      obtain ⟨ad, g1, g3⟩ := HR.out wr HB.out.1 k m hm
      have hix := ix_rw n cap k g1 hlt
      have HS : Hid (∀ j u, (mbL m)[j]? = some u → wr.cell? ((ad.add (k * 16)).add j) = some u) := g3
      have HM : Hid (l[k]? = some m ∧ l.take (k + 1) = l.take k ++ [m]) := ⟨hm, by rw [List.take_succ_eq_append_getElem hkl]; rw [List.getElem?_eq_getElem hkl] at hm; rw [Option.some.inj hm]⟩
      clear g1 g3 hm hkl c0
      go_upto_region 6 with (first
        | (refine step_ldat 83 _ rfl rfl (ad.add (k * 16)) (by rfl) (mbL m) _ Try.underlying83 rfl (by kernel_rfl) HS.out ?_)
        | (refine step_alL (by rfl) 83 rfl (mbL zMb).toArray (fun u => by kernel_rfl) ?_; intro w3 h3 H3)
        | (refine step_stL (by rfl) _ _ rfl h3 (mbL m).toArray (by rfl) (by rfl) (mbL zMb).toArray (by kernel_rfl) (by kernel_rfl) (by kernel_rfl) H3.out.bk ?_; intro w4 H4))
      have H5 : Hid (Below W.heap.size W w4 ∧ Bk h3 w4 (mbL m).toArray 83 ∧ Bk g w4 (asL a).toArray 41) := by
        have hb := below_thru HB.out.1 (H4.out.below H3.out.be H3.out.be.size (Nat.le_of_eq H3.out.at'.symm))
        exact ⟨hb, H4.out.bk, HX.out.2.2.1.kept (hb.block _ HX.out.2.2.1.lt)⟩
      clear H3 H4 HS
      obtain ⟨X, hX⟩ : ∃ X, clB m.ac a = X := ⟨_, rfl⟩
      have HXX : Hid (clB m.ac a = X) := hX
      have CC : Hid (Calls Try.prog 23 #[.agg (asL m.ac).toArray, .agg (asL a).toArray] w4 fun e w' => e = .returned (.bool X) ∧ Below w4.heap.size w4 w') := by rw [← hX]; exact clash_any m.ac a w4
      clear hX
      have HA1 : Hid (∀ j u, (asL m.ac)[j]? = some u → w4.cell? ((⟨h3, 1, none⟩ : Addr).add j) = some u) := as_in H5.out.2.1
      have HA2 : Hid (∀ j u, (asL a)[j]? = some u → w4.cell? ((⟨g, 0, none⟩ : Addr).add j) = some u) := cells_of (l := asL a) H5.out.2.2
      cases X
      · go_wp2_with (first
          | (refine step_ldat 41 _ rfl rfl ⟨h3, 1, none⟩ (by rfl) (asL m.ac) _ Try.underlying41 rfl (by kernel_rfl) HA1.out ?_)
          | (refine step_ldat 41 _ rfl rfl ⟨g, 0, none⟩ (by rfl) (asL a) _ Try.underlying41 rfl (by kernel_rfl) HA2.out ?_)
          | (go_at_call 23; refine CC.out.mono ?_; rintro e w5 ⟨rfl, hb5⟩))
        go_roundw
        case rel =>
          refine ⟨k + 1, by go_num, by omega, ⟨below_thru H5.out.1 hb5, ?_⟩⟩
          rw [HM.out.2, List.any_append, HB.out.2]
          simp [HXX.out]
        case measure => simp [intOf]; omega
      · have HT0 : Hid (tlE l a = 53) := by
          show _ = _
          unfold tlE
          rw [if_pos (List.any_eq_true.2 ⟨m, List.mem_of_getElem? HM.out.1, HXX.out⟩)]
        go_wp2_with (first
          | (refine step_ldat 41 _ rfl rfl ⟨h3, 1, none⟩ (by rfl) (asL m.ac) _ Try.underlying41 rfl (by kernel_rfl) HA1.out ?_)
          | (refine step_ldat 41 _ rfl rfl ⟨g, 0, none⟩ (by rfl) (asL a) _ Try.underlying41 rfl (by kernel_rfl) HA2.out ?_)
          | (go_at_call 23; refine CC.out.mono ?_; rintro e w5 ⟨rfl, hb5⟩))
        refine HE.out _ _ (by rw [HT0.out]; rfl) (by rw [HT0.out]; rfl) ?_ (grownBy_below (below_thru H5.out.1 hb5) _)
        unfold tlR
        rw [HT0.out, if_neg (by decide)]
        exact HX.out.1.below (below_thru H5.out.1 hb5)
    · have HT1 : Hid (tlE l a = if 16 ≤ l.length then 120 else 0) := by
        have e1 : l.take k = l := List.take_of_length_le (by rw [HN.out]; omega)
        have h1 := HB.out.2
        rw [e1] at h1
        show _ = _
        unfold tlE
        rw [h1, if_neg (by decide)]
      obtain ⟨w5, hw5⟩ : ∃ w5, w5 = wr := ⟨_, rfl⟩
      subst hw5
      have HB5 : Hid (Below W.heap.size W w5) := HB.out.1
      go_wp2_with fail
      rw [hR.out]
      clear hR c0 hk hlt HB
      have c0 := HC0.out w5 HB5.out
      refine seq_hid fun R hR => ?_
      by_cases hf : (16 : Int) ≤ n
      · have HT0 : Hid (tlE l a = 120) := by show _ = _; rw [HT1.out, if_pos (by rw [HN.out]; omega)]
        go_wp2_with fail
        refine HE.out _ _ (by rw [HT0.out]; rfl) (by rw [HT0.out]; rfl) ?_ (grownBy_below HB5.out _)
        unfold tlR
        rw [HT0.out, if_neg (by decide)]
        exact HX.out.1.below HB5.out
      · have HT0 : Hid (tlE l a = 0) := by show _ = _; rw [HT1.out, if_neg (by rw [HN.out]; omega)]
        have hf2 : ¬ (16 : Int) ≤ n := hf
        go_wp2_with fail
        rw [hR.out]
        have hL := HX.out.2.2.2 HT0.out
        refine ra_new (by kernel_rfl) df w5 d B g F l a par now K (HX.out.1.below HB5.out) (Nat.le_trans HX.out.2.1 HB5.out.size) (HX.out.2.2.1.kept (HB5.out.block _ HX.out.2.2.1.lt)) hL hn (by rw [ra_len l a par now F hL.free, HN.out]; omega) ?_
        intro tm' W' k1 k2 k3 k4
        refine HE.out tm' W' (by rw [HT0.out]; exact k1) (by rw [HT0.out]; exact k2) ?_ (grownBy_trans (grownBy_below HB5.out _) k4)
        unfold tlR
        rw [HT0.out, if_pos rfl]
        exact k3
def raN (l : List Mb) (a : As) (par : Int) (F : Nat) : Int := if raE l a par = 0 then (F : Int) else 0
def raR (l : List Mb) (a : As) (par now : Int) (F : Nat) : List Mb := if raE l a par = 0 then lowR l F ++ [raM F a par now] ++ topR l F else l
set_option maxRecDepth 20000 in
set_option maxHeartbeats 2000000 in
theorem radd_any (d B : Nat) (l : List Mb) (a : As) (par now : Int) (F : Nat) (w : World) (h : Rt w d B l) (hB : B ≤ w.heap.size) (hn : -9223372036854775808 ≤ now) (hF : raE l a par = 0 → Lf l F) : Calls Try.prog 24 #[.pointer (some ⟨d, 0, none⟩), .agg (asL a).toArray, .int .i64 par, .int .i64 now] w fun e w' => e = .returned (.tuple #[.int .i64 (raN l a par F), .int .i64 (raE l a par)]) ∧ Rt w' d B (raR l a par now F) ∧ w.grownBy w' (some d) := by
  have HT : Hid (Rt w d B l ∧ B ≤ w.heap.size) := ⟨h, hB⟩
  have HF : Hid (raE l a par = 0 → Lf l F) := hF
  have dlt : Hid (d < w.heap.size) := by obtain ⟨v, h1, _⟩ := h.ex; exact h1.lt
  clear h hF hB
  go_enter Try.func24, Try.ntmps24
  refine post_hid fun Q hQ => ?_
  refine seq_hid fun R hR => ?_
  go_wp2_with (refine step_boxL (by rfl) 41 _ rfl (asL a).toArray (by rfl) (fun u => by rfl) ?_; intro W g H1)
  rw [hR.out]
  clear hR
  have H2 : Hid (Ra2 w W d B l g a) := ⟨HT.out.1.below H1.out.be, H1.out.bk, H1.out.be, Nat.le_of_eq H1.out.at'.symm⟩
  clear H1
  refine seq_hid fun R hR => ?_
  obtain ⟨I, hI⟩ : ∃ I, idF par l 0 = I := ⟨_, rfl⟩
  have CI : Hid (Calls Try.prog 50 #[.pointer (some ⟨d, 0, none⟩), .int .i64 par] W fun e w' => e = .returned (.int .i64 I) ∧ Below W.heap.size W w') := by rw [← hI]; exact rat_any d B l par W H2.out.rt
  have hIn := idF_neg par l
  rw [hI] at hIn
  clear hI
  by_cases h1 : par ≠ 0 ∧ idM par l = none
  · have HE : Hid (raE l a par = 121) := by show _ = _; unfold raE; rw [if_pos h1]
    have hp1 : (par == 0) = false := by simpa using h1.1
    have hp2 : (par != 0) = true := by simpa using h1.1
    have hI2 : I < 0 := hIn.2 h1.2
    clear h1 hIn
    go_wp2_with (go_at_call 50; refine CI.out.mono ?_; rintro e w1 ⟨rfl, hb1⟩)
    rw [hQ.out]
    go_ret2
    have k := H2.out.below hb1
    unfold raN raR
    rw [HE.out]
    exact ⟨rfl, k.rt, grownBy_below k.be _⟩
  have HE1 : Hid (raE l a par = tlE l a) := by show _ = _; unfold raE tlE; rw [if_neg h1]
  have fin : Hid (∀ u, Below W.heap.size W u → ∀ (tm' : Array Value) (W' : World), tm'.getD 8 undef = .int .i64 (if tlE l a = 0 then (F : Int) else 0) → tm'.getD 9 undef = .int .i64 (tlE l a) → Rt W' d B (tlR l a par now F) → u.grownBy W' (some d) → Q .ret { tmps := tm', defers := [] } W') := fun u hu tm' W' k1 k2 k3 k4 => by
    rw [hQ.out]
    refine bodyPost_ret (results_tmp2 rfl _ _ _) rfl ?_
    refine ⟨?_, ?_, grownBy_trans (grownBy_below (below_thru H2.out.be hu) _) k4⟩
    · show Ending.returned (.tuple #[tm'.getD 8 undef, tm'.getD 9 undef]) = _
      rw [k1, k2]
      unfold raN
      rw [HE1.out]
    · unfold raR
      rw [HE1.out]
      exact k3
  by_cases hp : par = 0
  · subst hp
    clear h1 hIn
    go_wp2_with fail
    rw [hR.out]
    exact ra_tail (by kernel_rfl) [] W d B g F l a 0 now Q H2.out.rt (Nat.le_trans HT.out.2 H2.out.be.size) H2.out.bx (fun h => HF.out (by rw [HE1.out]; exact h)) hn (fin.out W (Below.refl _ _))
  · have hI2 : ¬ I < 0 := fun hh => h1 ⟨hp, hIn.1 hh⟩
    have hp1 : (par == 0) = false := by simpa using hp
    have hp2 : (par != 0) = true := by simpa using hp
    clear h1 hIn hp
    go_wp2_with (go_at_call 50; refine CI.out.mono ?_; rintro e w1 ⟨rfl, hb1⟩)
    rw [hR.out]
    have k := H2.out.below hb1
    exact ra_tail (by kernel_rfl) [] w1 d B g F l a par now Q k.rt (Nat.le_trans HT.out.2 k.be.size) k.bx (fun h => HF.out (by rw [HE1.out]; exact h)) hn (fin.out w1 hb1)
end Go.Proofs.Ytnjdmkgkpdebdaa
