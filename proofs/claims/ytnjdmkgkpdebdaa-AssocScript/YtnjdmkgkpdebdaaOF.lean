/- assoc: the reference's Add. -/
import Derived.Test.YtnjdmkgkpdebdaaOE
namespace Go.Proofs.Ytnjdmkgkpdebdaa
open Go Go.RowKit Go.Sort
set_option linter.unusedVariables false
def raNew (f : Go.Func) : Code := dropSeq' 4 (f.body.getD .skip)
def raTail (f : Go.Func) : Code := dropSeq' 2 (f.body.getD .skip)
set_option maxRecDepth 40000 in
set_option maxHeartbeats 4000000 in
theorem ra_new {c : Code} (hcode : c = (raNew Try.f24)) {v1 v4 v6 v7 v8 v9 v10 v11 v12 v13 v14 v15 v16 v17 v18 v19 v20 v21 v22 v23 v24 v25 v26 v27 v28 v29 v30 v31 v32 v33 v34 v35 v36 v37 v38 v39 v40 v41 v42 v43 v44 v45 v46 v47 v48 v49 v50 v51 v52 v53 v54 v55 v56 v57 v58 v59 v60 v61 v62 v63 v64 v65 v66 v67 v68 v69 v70 v71 v72 v73 v74 v75 v76 v77 v78 v79 v80 v81 v82 v83 v84 v85 v86 v87 v88 v89 v90 v91 v92 v93 v94 v95 v96 v97 v98 v99 v100 v101 v102 v103 v104 v105 v106 v107 v108 v109 v110 v111 v112 v113 v114 v115 v116 v117 v118 v119 v120 : Value} (df : List Deferred) (W : World) (d B g F : Nat) (l : List Mb) (a : As) (par now : Int) (K : Exit → Act → World → Prop) (hT : Rt W d B l) (hB : B ≤ W.heap.size) (hg : Bk g W (asL a).toArray 41) (hF : Lf l F) (hn : -9223372036854775808 ≤ now) (hlen : (lowR l F ++ [raM F a par now] ++ topR l F).length ≤ 16)
    (hend : ∀ tm' W', tm'.getD 8 undef = .int .i64 (F : Int) → tm'.getD 9 undef = .int .i64 0 → Rt W' d B (lowR l F ++ [raM F a par now] ++ topR l F) → W.grownBy W' (some d) → K .ret { tmps := tm', defers := df } W') : Code.wp Try.prog c K { tmps := ((Value.pointer (some ⟨d, 0, none⟩)) :: v1 :: (Value.int .i64 par) :: (Value.int .i64 now) :: v4 :: (Value.pointer (some ⟨g, 0, none⟩)) :: v6 :: v7 :: v8 :: v9 :: v10 :: v11 :: v12 :: v13 :: v14 :: v15 :: v16 :: v17 :: v18 :: v19 :: v20 :: v21 :: v22 :: v23 :: v24 :: v25 :: v26 :: v27 :: v28 :: v29 :: v30 :: v31 :: v32 :: v33 :: v34 :: v35 :: v36 :: v37 :: v38 :: v39 :: v40 :: v41 :: v42 :: v43 :: v44 :: v45 :: v46 :: v47 :: v48 :: v49 :: v50 :: v51 :: v52 :: v53 :: v54 :: v55 :: v56 :: v57 :: v58 :: v59 :: v60 :: v61 :: v62 :: v63 :: v64 :: v65 :: v66 :: v67 :: v68 :: v69 :: v70 :: v71 :: v72 :: v73 :: v74 :: v75 :: v76 :: v77 :: v78 :: v79 :: v80 :: v81 :: v82 :: v83 :: v84 :: v85 :: v86 :: v87 :: v88 :: v89 :: v90 :: v91 :: v92 :: v93 :: v94 :: v95 :: v96 :: v97 :: v98 :: v99 :: v100 :: v101 :: v102 :: v103 :: v104 :: v105 :: v106 :: v107 :: v108 :: v109 :: v110 :: v111 :: v112 :: v113 :: v114 :: v115 :: v116 :: v117 :: v118 :: v119 :: v120 :: []).toArray, defers := df } W := by
  have HE : Hid (∀ tm' W', tm'.getD 8 undef = .int .i64 (F : Int) → tm'.getD 9 undef = .int .i64 0 → Rt W' d B (lowR l F ++ [raM F a par now] ++ topR l F) → W.grownBy W' (some d) → K .ret { tmps := tm', defers := df } W') := hend
  have HX : Hid (Rt W d B l ∧ B ≤ W.heap.size ∧ Bk g W (asL a).toArray 41 ∧ Lf l F ∧ (lowR l F ++ [raM F a par now] ++ topR l F).length ≤ 16) := ⟨hT, hB, hg, hF, hlen⟩
  have hF1 := hF.top
  clear hend hT hB hg hF hlen
  subst hcode
  unfold raNew Try.f24
  simp only [dropSeq', Option.getD_some]
  refine seq_hid fun R hR => ?_
  go_wp2_with fail
  rw [hR.out]
  clear hR
  refine seq_hid fun R hR => ?_
  go_wp2_with fail
  go_loopw [12] (fun i wr => ∃ (j : Nat), i = .int .i64 j ∧ 1 ≤ j ∧ j ≤ F ∧ Hid (Below W.heap.size W wr)) (fun i _ => F - (intOf i).toNat)
  case atStart => exact ⟨1, rfl, by omega, HX.out.2.2.2.1.one, Below.refl _ _⟩
  case round =>
    obtain ⟨j, rfl, hj1, hj2, HB⟩ := hrel
    obtain ⟨I, hI⟩ : ∃ I, idF (j : Int) l 0 = I := ⟨_, rfl⟩
    have CI : Hid (Calls Try.prog 50 #[.pointer (some ⟨d, 0, none⟩), .int .i64 (j : Int)] wr fun e w' => e = .returned (.int .i64 I) ∧ Below wr.heap.size wr w') := by rw [← hI]; exact rat_any d B l j wr (HX.out.1.below HB.out)
    by_cases hjF : j < F
    · have hI0 : 0 ≤ I := by
        have := HX.out.2.2.2.1.least j hj1 hjF
        rw [← hI]
        rcases Int.lt_or_le (idF (j : Int) l 0) 0 with h | h
        · exact absurd ((idF_neg _ l).1 h) this
        · exact h
      have hj3 : (j : Int) + 1 ≤ 16 := by omega
      clear hI
      go_wp2_with (go_at_call 50; refine CI.out.mono ?_; rintro e w1 ⟨rfl, hb1⟩; have H1 : Hid (Below W.heap.size W w1) := below_thru HB.out hb1; clear hb1)
      go_roundw
      case rel => exact ⟨j + 1, by go_num, by omega, by omega, H1⟩
      case measure => simp [intOf]; omega
    · have hjF2 : j = F := by omega
      subst hjF2
      have hI0 : I < 0 := by rw [← hI]; exact (idF_neg _ l).2 HX.out.2.2.2.1.free
      clear hI
      go_wp2_with (go_at_call 50; refine CI.out.mono ?_; rintro e w1 ⟨rfl, hb1⟩; have H1 : Hid (Below W.heap.size W w1) := below_thru HB.out hb1; clear hb1)
      rw [hR.out]
      clear hR CI HB
      have H2 : Hid (Rt w1 d B l ∧ Bk g w1 (asL a).toArray 41 ∧ Below W.heap.size W w1) := ⟨HX.out.1.below H1.out, HX.out.2.2.1.kept (H1.out.block _ HX.out.2.2.1.lt), H1.out⟩
      clear H1
      have HA : Hid (∀ i u, (asL a)[i]? = some u → w1.cell? ((⟨g, 0, none⟩ : Addr).add i) = some u) := cells_of (l := asL a) H2.out.2.1
      refine seq_hid fun R hR => ?_
      go_wp2_with (first
        | (refine step_ldat 41 _ rfl rfl ⟨g, 0, none⟩ (by rfl) (asL a) _ Try.underlying41 rfl (by kernel_rfl) HA.out ?_)
        | (refine step_bdL (by rfl) 81 [(0, .tmp 54), (1, .tmp 55), (2, .tmp 56)] rfl [(0, .int .i64 (j : Int)), (1, .agg (asL a).toArray), (2, .int .i64 par)] (by rfl) (.agg (enL ⟨0, j, a, par, 0, 0⟩).toArray) (run_buildEr j par a _) ?_)
        | (refine step_alL (by rfl) 81 rfl (enL zMb).toArray (fun u => by kernel_rfl) ?_; intro w3 g4 H3)
        | (refine step_stL (by rfl) _ _ rfl g4 (enL ⟨0, j, a, par, 0, 0⟩).toArray (by rfl) (by rfl) (enL zMb).toArray (by kernel_rfl) (by kernel_rfl) (by kernel_rfl) H3.out.bk ?_; intro w4 H4))
      rw [hR.out]
      clear hR HA
      have H6 : Hid (Rt w4 d B l ∧ Bk g4 w4 (enL ⟨0, j, a, par, 0, 0⟩).toArray 81 ∧ Below W.heap.size W w4 ∧ Bk g w4 (asL a).toArray 41 ∧ w1.heap.size ≤ g4 ∧ Rt w1 d B l ∧ Below W.heap.size W w1) := by
        have hb := H4.out.below H3.out.be H3.out.be.size (Nat.le_of_eq H3.out.at'.symm)
        exact ⟨H2.out.1.below hb, H4.out.bk, below_thru H2.out.2.2 hb, H2.out.2.1.kept (hb.block _ H2.out.2.1.lt), Nat.le_of_eq H3.out.at'.symm, H2.out.1, H2.out.2.2⟩
      have H6b : Hid (Below w1.heap.size w1 w4) := H4.out.below H3.out.be H3.out.be.size (Nat.le_of_eq H3.out.at'.symm)
      clear H2 H3 H4
      obtain ⟨E, hE⟩ : ∃ E, enI a par now = E := ⟨_, rfl⟩
      have HN : Hid (enI a par now = E) := hE
      clear hE
      refine seq_hid fun R hR => ?_
      have a0 : w4.cell? ⟨g, 0, none⟩ = some (.int .i64 a.kind) := H6.out.2.2.2.1.cell 0
      have hcs : (par ≠ 0) ∨ (par = 0 ∧ a.kind = 7) ∨ (par = 0 ∧ a.kind = 8) ∨ (par = 0 ∧ a.kind ≠ 7 ∧ a.kind ≠ 8) := by
        by_cases hp : par = 0
        · by_cases h7 : a.kind = 7
          · exact .inr (.inl ⟨hp, h7⟩)
          · by_cases h8 : a.kind = 8
            · exact .inr (.inr (.inl ⟨hp, h8⟩))
            · exact .inr (.inr (.inr ⟨hp, h7, h8⟩))
        · exact .inl hp
      have done : Hid (∀ w6, Wt w4 w6 g4 (enL (raM j a par now)).toArray 81 → (Rt w6 d B l ∧ Bk g4 w6 (enL (raM j a par now)).toArray 81 ∧ Below W.heap.size W w6)) := fun w6 ht => by
        have hb : Below w1.heap.size w1 w6 := ht.below H6b.out H6b.out.size H6.out.2.2.2.2.1
        exact ⟨H6.out.2.2.2.2.2.1.below hb, ht.bk, below_thru H6.out.2.2.2.2.2.2 hb⟩
      have fin : Hid (∀ w6, (Rt w6 d B l ∧ Bk g4 w6 (enL (raM j a par now)).toArray 81 ∧ Below W.heap.size W w6) → (Rt w6 d B l ∧ B ≤ w6.heap.size ∧ Bk g4 w6 (enL (raM j a par now)).toArray 81 ∧ ∀ tm' W', tm'.getD 8 undef = .int .i64 (j : Int) → tm'.getD 9 undef = .int .i64 0 → Rt W' d B (lowR l j ++ [raM j a par now] ++ topR l j) → w6.grownBy W' (some d) → K .ret { tmps := tm', defers := df } W')) := fun w6 h => ⟨h.1, Nat.le_trans HX.out.2.1 h.2.2.size, h.2.1, fun tm' W' k1 k2 k3 k4 => HE.out tm' W' k1 k2 k3 (grownBy_trans (grownBy_below h.2.2 _) k4)⟩
      rcases hcs with hp | ⟨rfl, h7⟩ | ⟨rfl, h8⟩ | ⟨rfl, h7, h8⟩
      · have hp1 : (par == 0) = false := by simpa using hp
        have hp2 : (par != 0) = true := by simpa using hp
        have HL : Hid (ltI now = E) := by show _ = _; rw [← HN.out]; unfold enI; rw [if_pos (.inl hp)]
        clear hp
        go_wp2_with (first
          | (go_at_call 51; refine (rlater_any now _ hn).mono ?_; rintro e w5 ⟨rfl, hw5⟩; rw [HL.out, hw5]; clear hw5)
          | (refine step_st1 (by rfl) _ _ rfl g4 14 (.int .i64 E) (by rfl) (by rfl) rfl (by kernel_rfl) rfl (enL ⟨0, j, a, par, 0, 0⟩) (by simp [enL]) H6.out.2.1 ?_; intro w6 H7))
        have H8 := fin.out w6 (done.out w6 (by have h := H7.out; unfold raM; rw [HN.out]; exact h))
        rw [hR.out]
        exact ra_fill (by kernel_rfl) df w6 d B g4 j l (raM j a par now) K rfl H8.1 H8.2.1 H8.2.2.1 HX.out.2.2.2.2 H8.2.2.2
      · rw [h7] at a0
        have HL : Hid (ltI now = E) := by show _ = _; rw [← HN.out]; unfold enI; rw [if_pos (.inr (.inl h7))]
        clear h7
        go_wp2_with (first
          | (go_at_call 51; refine (rlater_any now _ hn).mono ?_; rintro e w5 ⟨rfl, hw5⟩; rw [HL.out, hw5]; clear hw5)
          | (refine step_st1 (by rfl) _ _ rfl g4 14 (.int .i64 E) (by rfl) (by rfl) rfl (by kernel_rfl) rfl (enL ⟨0, j, a, 0, 0, 0⟩) (by simp [enL]) H6.out.2.1 ?_; intro w6 H7))
        have H8 := fin.out w6 (done.out w6 (by have h := H7.out; unfold raM; rw [HN.out]; exact h))
        rw [hR.out]
        exact ra_fill (by kernel_rfl) df w6 d B g4 j l (raM j a 0 now) K rfl H8.1 H8.2.1 H8.2.2.1 HX.out.2.2.2.2 H8.2.2.2
      · rw [h8] at a0
        have HL : Hid (ltI now = E) := by show _ = _; rw [← HN.out]; unfold enI; rw [if_pos (.inr (.inr h8))]
        clear h8
        go_wp2_with (first
          | (go_at_call 51; refine (rlater_any now _ hn).mono ?_; rintro e w5 ⟨rfl, hw5⟩; rw [HL.out, hw5]; clear hw5)
          | (refine step_st1 (by rfl) _ _ rfl g4 14 (.int .i64 E) (by rfl) (by rfl) rfl (by kernel_rfl) rfl (enL ⟨0, j, a, 0, 0, 0⟩) (by simp [enL]) H6.out.2.1 ?_; intro w6 H7))
        have H8 := fin.out w6 (done.out w6 (by have h := H7.out; unfold raM; rw [HN.out]; exact h))
        rw [hR.out]
        exact ra_fill (by kernel_rfl) df w6 d B g4 j l (raM j a 0 now) K rfl H8.1 H8.2.1 H8.2.2.1 HX.out.2.2.2.2 H8.2.2.2
      · have h71 : (a.kind == 7) = false := by simpa using h7
        have h81 : (a.kind == 8) = false := by simpa using h8
        have HM : Hid (raM j a 0 now = ⟨0, j, a, 0, 0, 0⟩) := by show _ = _; unfold raM enI; rw [if_neg (by simp [h7, h8])]
        clear h7 h8
        go_wp2_with fail
        have H8 := fin.out w4 ⟨H6.out.1, by rw [HM.out]; exact H6.out.2.1, H6.out.2.2.1⟩
        rw [hR.out]
        exact ra_fill (by kernel_rfl) df w4 d B g4 j l (raM j a 0 now) K rfl H8.1 H8.2.1 H8.2.2.1 HX.out.2.2.2.2 H8.2.2.2
end Go.Proofs.Ytnjdmkgkpdebdaa
