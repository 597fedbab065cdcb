/- The reference's Decode of packets of time: its fields. -/
import Derived.Test.YtdobghhjlfffpaaYLa
import Derived.Test.YtdobghhjlfffpaaYKc
import Derived.Test.YtdobghhjlfffpaaGY
import Derived.Deep.CutRange
namespace Go.Proofs.Ytdobghhjlfffpaa
open Go.RowKit
set_option linter.unusedVariables false
set_option maxRecDepth 40000 in
set_option maxHeartbeats 8000000 in
theorem rd_loop (bs : List Int) (w : World) (h48 : 48 ≤ bs.length) (h512 : bs.length ≤ 512) (LP VR MD x1 x2 x3 D6 D7 y8 y9 y10 y11 y12 : Int) (hHH : (⟨LP, VR, MD, x1, sg x2, sg x3, D6, D7, y8, y9, y10, y11, y12⟩ : Hd) = hdD bs) (hHV : vmB bs = true) (a13 : Option Addr) (n13 c13 : Nat) (W : World) (hQ : Sv w.heap.size w (.slice a13 n13 c13) (bs.drop 48)) (hP : PC w W #[.int .i64 LP, .int .i64 VR, .int .i64 MD, .int .i64 x1, .int .i64 (sg x2), .int .i64 (sg x3), .int .i64 D6, .int .i64 D7, .int .u32 y8, .int .u64 y9, .int .u64 y10, .int .u64 y11, .int .u64 y12, .slice none 0 0, .int .i64 0, .bool false, .slice none 0 0]) (v1 v3 v6 v7 v8 v9 v10 v11 v12 v13 v14 v15 v16 v17 v18 v19 v20 v21 v22 v23 v24 v25 v26 v27 v28 v29 v30 v31 v32 v33 v34 v35 v36 v37 v38 v39 v40 v41 v42 v43 v44 v45 v46 v47 v48 v49 v50 v51 v52 v53 v54 v55 v56 v57 v58 v59 v60 v61 v62 v63 v64 v65 v66 v67 v68 v69 v70 v71 v72 v73 v74 v75 v76 v77 v78 v79 v80 v81 v82 v83 v84 v85 v86 v87 v88 v89 v90 v91 v92 v93 v94 v95 v96 v97 v98 v99 v100 v101 v102 v103 v104 v105 v106 v107 v108 v109 v110 v111 v112 v113 v114 v115 v116 v117 v118 v119 v120 v121 v122 v123 v124 v125 v126 v127 v128 v129 v130 v131 v132 v133 v134 v135 v136 v137 v138 v139 v140 v141 v142 v143 v144 v145 v146 v147 v148 v149 v150 v151 v152 v153 v154 v155 v156 v157 v158 v159 : Value) :
    Code.wp Try.prog (rdLoop Try.f18) (bodyPost Try.prog Try.f18 (fun e w9 => DcR bs w e w9)) { tmps := #[.slice a13 n13 c13, v1, .pointer (some ⟨w.heap.size, 0, none⟩), v3, .pointer (some ⟨w.heap.size + 1, 0, none⟩), .pointer (some ⟨w.heap.size + 2, 0, none⟩), v6, v7, v8, v9, v10, v11, v12, v13, v14, v15, v16, v17, v18, v19, v20, v21, v22, v23, v24, v25, v26, v27, v28, v29, v30, v31, v32, v33, v34, v35, v36, v37, v38, v39, v40, v41, v42, v43, v44, v45, v46, v47, v48, v49, v50, v51, v52, v53, v54, v55, v56, v57, v58, v59, v60, v61, v62, v63, v64, v65, v66, v67, v68, v69, v70, v71, v72, v73, v74, v75, v76, v77, v78, v79, v80, v81, v82, v83, v84, v85, v86, v87, v88, v89, v90, v91, v92, v93, v94, v95, v96, v97, v98, v99, v100, v101, v102, v103, v104, v105, v106, v107, v108, v109, v110, v111, v112, v113, v114, v115, v116, v117, v118, v119, v120, v121, v122, v123, v124, v125, v126, v127, v128, v129, v130, v131, v132, v133, v134, v135, v136, v137, v138, v139, v140, v141, v142, v143, v144, v145, v146, v147, v148, v149, v150, v151, v152, v153, v154, v155, v156, v157, v158, v159], defers := [] } W := by
  have HLE : Hid (48 ≤ bs.length ∧ bs.length ≤ 512) := ⟨h48, h512⟩
  have HH : Hid ((⟨LP, VR, MD, x1, sg x2, sg x3, D6, D7, y8, y9, y10, y11, y12⟩ : Hd) = hdD bs) := hHH
  have HV : Hid (vmB bs = true) := hHV
  have HQ : Hid (Sv w.heap.size w (.slice a13 n13 c13) (bs.drop 48)) := hQ
  have P13 : Hid (PC w W #[.int .i64 LP, .int .i64 VR, .int .i64 MD, .int .i64 x1, .int .i64 (sg x2), .int .i64 (sg x3), .int .i64 D6, .int .i64 D7, .int .u32 y8, .int .u64 y9, .int .u64 y10, .int .u64 y11, .int .u64 y12, .slice none 0 0, .int .i64 0, .bool false, .slice none 0 0]) := hP
  clear hHH hHV h48 h512 hQ hP
  refine post_hid3 fun QB hQB => ?_
  unfold rdLoop Try.f18
  simp only [dropSeq3, Option.getD_some]
  refine seq_hid3 fun RE hRE => ?_
  go_wp2_with fail
  go_loopw [0] (fun s wr => ∃ (ea : Option Addr) (en ec : Nat) (xs : List Xt) (ao2 : Option Addr) (L2 cap2 : Nat) (b2 : List Int), s = .slice ao2 L2 cap2 ∧ Hid (RL w wr (fun ev => #[.int .i64 LP, .int .i64 VR, .int .i64 MD, .int .i64 x1, .int .i64 (sg x2), .int .i64 (sg x3), .int .i64 D6, .int .i64 D7, .int .u32 y8, .int .u64 y9, .int .u64 y10, .int .u64 y11, .int .u64 y12, ev, .int .i64 0, .bool false, .slice none 0 0]) s (.slice ea en ec) xs (bs.drop 48) b2)) (fun s _ => slen s)
  case atStart => exact ⟨none, 0, 0, [], a13, n13, c13, bs.drop 48, rfl, P13.out, OX.nil _ _, HQ.out, Sq.start _, by rw [List.length_drop]; have := HLE.out; omega⟩
  case round =>
    obtain ⟨ea, en, ec, xs, ao2, L2, cap2, b2, rfl, H2⟩ := hrel
    clear P13
    have HL2 : Hid (L2 = b2.length) := by obtain ⟨_, _, hv, _⟩ := H2.out.sv; injection hv
    obtain ⟨LI, hLI⟩ : ∃ x : Int, (L2 : Int) = x := ⟨_, rfl⟩
    have HLI : Hid ((L2 : Int) = LI) := hLI
    have hl2 : LI ≤ 512 := by have := HL2.out; have := H2.out.ln; omega
    have hl0 : 0 ≤ LI := by omega
    have HOK : Hid (okb b2) := by obtain ⟨_, _, _, _, _, _, ho⟩ := H2.out.sv; exact ho
    have HEN : Hid (en = xs.length) := H2.out.ox.len
    by_cases h24 : 24 < LI
    · have HLb : Hid (24 < b2.length) := by have := HL2.out; have := HLI.out; show _ < _; omega
      have k13 : wr.cell? ⟨w.heap.size + 2, 13, none⟩ = some (.slice ea en ec) := H2.out.pc.c.cell 13
      by_cases h4 : en = 4
      · have h4b : ((en : Int) == 4) = true := by rw [h4]; rfl
        have HE : Hid (dcE bs = 54) := dcE_l HLE.out.1 HLE.out.2 HV.out (H2.out.sq.many HLb.out (by rw [← HEN.out]; exact h4)) (by decide)
        clear h4
        go_wp2_with (first | (refine step_ld _ (by rfl) (by rfl) (w.heap.size + 1) #[.int .i64 0, .int .i64 0, .int .i64 0, .int .i64 0, .int .i64 0, .int .i64 0, .int .i64 0, .int .i64 0, .int .u32 0, .int .u64 0, .int .u64 0, .int .u64 0, .int .u64 0, .slice none 0 0, .int .i64 0, .bool false, .slice none 0 0] zs17 H2.out.pc.z1 (by rfl) ?_) | (refine step_st _ _ (by rfl) (by rfl) w.heap.size #[.int .i64 0, .int .i64 0, .int .i64 0, .int .i64 0, .int .i64 0, .int .i64 0, .int .i64 0, .int .i64 0, .int .u32 0, .int .u64 0, .int .u64 0, .int .u64 0, .int .u64 0, .slice none 0 0, .int .i64 0, .bool false, .slice none 0 0] #[.int .i64 0, .int .i64 0, .int .i64 0, .int .i64 0, .int .i64 0, .int .i64 0, .int .i64 0, .int .i64 0, .int .u32 0, .int .u64 0, .int .u64 0, .int .u64 0, .int .u64 0, .slice none 0 0, .int .i64 0, .bool false, .slice none 0 0] zs17 zs17 za17 H2.out.pc.z0 (by rfl) (by rfl) ?_))
        rw [hQB.out]
        exact bodyPost_ret (v := .tuple #[.agg #[.int .i64 0, .int .i64 0, .int .i64 0, .int .i64 0, .int .i64 0, .int .i64 0, .int .i64 0, .int .i64 0, .int .u32 0, .int .u64 0, .int .u64 0, .int .u64 0, .int .u64 0, .slice none 0 0, .int .i64 0, .bool false, .slice none 0 0], .int .i64 54]) (res_pk2 Try.results18 _ _ w.heap.size _ _ (by rfl) (by rfl) (Bk.row H2.out.pc.z0) (by rfl)) rfl (DcR.err HE.out (by decide) (Bk.below_row H2.out.pc.bl H2.out.pc.z0.lt))

      · have h4b : ((en : Int) == 4) = false := by rw [beq_eq_false_iff_ne]; omega
        have HX4 : Hid (xs.length ≠ 4) := by rw [← HEN.out]; exact h4
        clear h4
        obtain ⟨sA, rA, qA⟩ := sub_mid H2.out.sv 2 4 2 4 rfl rfl (by omega) (by have := HLb.out; omega)
        obtain ⟨NI, hNI⟩ : ∃ y, y = fv b2 2 2 := ⟨_, rfl⟩
        have HNI : Hid (NI = fv b2 2 2) := hNI
        have nb := fv2_bd HOK.out 2
        rw [← hNI] at nb
        obtain ⟨nb0, nb1⟩ := nb
        have HGA : Hid (Calls Try.prog 43 #[sA] wr fun e' w2 => e' = .returned (.int .u64 NI) ∧ w2 = wr) := by
          show Calls _ _ _ _ _
          rw [hNI]; exact get_any w.heap.size _ _ wr (qA.below H2.out.pc.bl (Nat.le_refl _)) (by rw [List.length_take]; omega)
        clear hNI qA
        go_wp2_with fail
        refine HGA.out.mono ?_
        rintro e' w9 ⟨rfl, hw9⟩
        rw [hw9]
        clear hw9 HGA rA
        obtain ⟨M, hM⟩ : ∃ M, M = NI % 4 := ⟨_, rfl⟩
        have e4 : NI.tmod 4 = M := by rw [Int.tmod_eq_emod_of_nonneg nb0, hM]
        have HM : Hid (M = NI % 4) := hM
        clear hM
        by_cases hx : 28 ≤ NI ∧ M = 0 ∧ NI ≤ LI
        · obtain ⟨hx1, hx2, hx3⟩ := hx
          subst hx2
          have HG : Hid (xG b2) := by
            refine ⟨?_, ?_, ?_⟩
            · rw [← HNI.out]; exact hx1
            · rw [← HNI.out]; exact HM.out.symm
            · rw [← HNI.out]; have := HL2.out; have := HLI.out; omega
          obtain ⟨nn, hnn⟩ : ∃ n : Nat, (n : Int) = NI := ⟨NI.toNat, by omega⟩
          have HNN : Hid ((nn : Int) = NI ∧ nn ≤ b2.length ∧ 28 ≤ nn) := ⟨hnn, by have := HL2.out; have := HLI.out; omega, by omega⟩
          obtain ⟨sB, rB, qB⟩ := sub_take H2.out.sv 2 2 rfl (by have := HLb.out; omega)
          obtain ⟨sC, rC, qC⟩ := sub_mid H2.out.sv 4 nn 4 NI rfl hnn (by have := HNN.out; omega) HNN.out.2.1
          obtain ⟨sD, rD, qD⟩ := sub_drop H2.out.sv nn NI hnn HNN.out.2.1
          obtain ⟨TY, hTY⟩ : ∃ y, y = fv b2 0 2 := ⟨_, rfl⟩
          obtain ⟨tb0, tb1⟩ := fv2_bd HOK.out 0
          rw [← hTY] at tb0 tb1
          have HTY : Hid (TY = fv b2 0 2) := hTY
          have ewT : IntKind.i64.wrap TY = TY := by rw [IntKind.wrap_i64]; omega
          have HGB : Hid (∀ v, Below w.heap.size w v → Calls Try.prog 43 #[sB] v fun e' w2 => e' = .returned (.int .u64 TY) ∧ w2 = v) := fun v hb => by
            rw [hTY]; exact get_any w.heap.size _ _ v (qB.below hb (Nat.le_refl _)) (by rw [List.length_take]; omega)
          obtain ⟨aD, cD, hD, -⟩ := id qD
          subst hD
          obtain ⟨LD, hLD⟩ : ∃ n, n = (b2.drop nn).length := ⟨_, rfl⟩
          rw [← hLD] at qD rD
          have HD' : Hid (Sv w.heap.size w (.slice aD LD cD) (b2.drop nn) ∧ LD < L2 ∧ (b2.drop nn).length ≤ 512) := ⟨qD, by have := HL2.out; have := HNN.out; rw [hLD, List.length_drop]; omega, by have := H2.out.ln; rw [List.length_drop]; omega⟩
          have HC' : Hid (Sv w.heap.size w sC ((b2.drop 4).take (nn - 4)) ∧ ((b2.drop 4).take (nn - 4)).length ≤ 10000000) := ⟨qC, by have := H2.out.ln; rw [List.length_take, List.length_drop]; omega⟩
          have f13 := H2.out.pc.c.frozen 13
          have hpw : w.heap.size + 2 < wr.heap.size := H2.out.pc.c.lt
          clear hnn hTY hLD qB qC qD
          go_wp2_with fail
          refine x_region (w := w) (S := .slice ao2 L2 cap2) (sB := sB) (sC := sC) (NI := NI) (TY := TY) (ea := ea) (en := en) (ec := ec) (xs := xs) (dat := (b2.drop 4).take (nn - 4)) (cs := #[.int .i64 LP, .int .i64 VR, .int .i64 MD, .int .i64 x1, .int .i64 (sg x2), .int .i64 (sg x3), .int .i64 D6, .int .i64 D7, .int .u32 y8, .int .u64 y9, .int .u64 y10, .int .u64 y11, .int .u64 y12, .slice ea en ec, .int .i64 0, .bool false, .slice none 0 0]) (by kernel_rfl) ⟨by rfl, by rfl, by rfl, by rfl, H2.out.pc.drew, by rfl, H2.out.ox.drew, HEN.out, (by have := HEN.out; have := H2.out.sq.1; have := HX4.out; omega), rB, rC, HGB.out, fun u hu => rclone_any w.heap.size _ ((b2.drop 4).take (nn - 4)) u HC'.out.2 (HC'.out.1.below hu (Nat.le_refl _)) hu.size, tb0, tb1⟩ ?_
          rintro a' u hsz hdf hkept ⟨dv, ea8, en8, ec8, hpc, hox⟩
          obtain ⟨z0, z1, z2, z3, z4, z5, z6, z7, z8, z9, z10, z11, z12, z13, ha⟩ := act_ys (n := 160) (lo := 120) (by rfl) hsz hdf (fun j hj => hkept j (by omega)) (by omega)
          subst ha
          clear hsz hdf hkept
          rw [set13] at hpc
          have G8 : Hid (PC w u #[.int .i64 LP, .int .i64 VR, .int .i64 MD, .int .i64 x1, .int .i64 (sg x2), .int .i64 (sg x3), .int .i64 D6, .int .i64 D7, .int .u32 y8, .int .u64 y9, .int .u64 y10, .int .u64 y11, .int .u64 y12, .slice ea8 en8 ec8, .int .i64 0, .bool false, .slice none 0 0] ∧ OX u (w.heap.size + 3) (.slice ea8 en8 ec8) (xs ++ [⟨TY, dv, (b2.drop 4).take (nn - 4)⟩])) := ⟨hpc, hox⟩
          clear hpc hox
          simp only [setsFrom, List.setIfInBounds_toArray, List.set_cons_succ, List.set_cons_zero]
          go_wp2_with fail
          exact ⟨⟨ea8, en8, ec8, xs ++ [⟨TY, dv, (b2.drop 4).take (nn - 4)⟩], aD, LD, cD, b2.drop nn, rfl, G8.out.1, G8.out.2, HD'.out.1, H2.out.sq.next HLb.out HX4.out HG.out dv (by have := HNN.out; rw [← HNI.out]; omega) HTY.out rfl, HD'.out.2.2⟩, HD'.out.2.1⟩
        · have HE : Hid (dcE bs = 32) := dcE_l HLE.out.1 HLE.out.2 HV.out (H2.out.sq.form HLb.out HX4.out (fun g => hx ⟨by rw [HNI.out]; exact g.1, by rw [HM.out, HNI.out]; exact g.2.1, by have := g.2.2; rw [← HNI.out] at this; have := HL2.out; have := HLI.out; omega⟩)) (by decide)
          by_cases hx1 : 28 ≤ NI
          · by_cases hx2 : M = 0
            · have hx3 : LI < NI := by omega
              subst hx2
              clear hx
              go_wp2_with (first | (refine step_ld _ (by rfl) (by rfl) (w.heap.size + 1) #[.int .i64 0, .int .i64 0, .int .i64 0, .int .i64 0, .int .i64 0, .int .i64 0, .int .i64 0, .int .i64 0, .int .u32 0, .int .u64 0, .int .u64 0, .int .u64 0, .int .u64 0, .slice none 0 0, .int .i64 0, .bool false, .slice none 0 0] zs17 H2.out.pc.z1 (by rfl) ?_) | (refine step_st _ _ (by rfl) (by rfl) w.heap.size #[.int .i64 0, .int .i64 0, .int .i64 0, .int .i64 0, .int .i64 0, .int .i64 0, .int .i64 0, .int .i64 0, .int .u32 0, .int .u64 0, .int .u64 0, .int .u64 0, .int .u64 0, .slice none 0 0, .int .i64 0, .bool false, .slice none 0 0] #[.int .i64 0, .int .i64 0, .int .i64 0, .int .i64 0, .int .i64 0, .int .i64 0, .int .i64 0, .int .i64 0, .int .u32 0, .int .u64 0, .int .u64 0, .int .u64 0, .int .u64 0, .slice none 0 0, .int .i64 0, .bool false, .slice none 0 0] zs17 zs17 za17 H2.out.pc.z0 (by rfl) (by rfl) ?_))
              rw [hQB.out]
              exact bodyPost_ret (v := .tuple #[.agg #[.int .i64 0, .int .i64 0, .int .i64 0, .int .i64 0, .int .i64 0, .int .i64 0, .int .i64 0, .int .i64 0, .int .u32 0, .int .u64 0, .int .u64 0, .int .u64 0, .int .u64 0, .slice none 0 0, .int .i64 0, .bool false, .slice none 0 0], .int .i64 32]) (res_pk2 Try.results18 _ _ w.heap.size _ _ (by rfl) (by rfl) (Bk.row H2.out.pc.z0) (by rfl)) rfl (DcR.err HE.out (by decide) (Bk.below_row H2.out.pc.bl H2.out.pc.z0.lt))

            · have hMb : (M != 0) = true := by rw [bne_iff_ne]; exact hx2
              clear hx hx2
              go_wp2_with (first | (refine step_ld _ (by rfl) (by rfl) (w.heap.size + 1) #[.int .i64 0, .int .i64 0, .int .i64 0, .int .i64 0, .int .i64 0, .int .i64 0, .int .i64 0, .int .i64 0, .int .u32 0, .int .u64 0, .int .u64 0, .int .u64 0, .int .u64 0, .slice none 0 0, .int .i64 0, .bool false, .slice none 0 0] zs17 H2.out.pc.z1 (by rfl) ?_) | (refine step_st _ _ (by rfl) (by rfl) w.heap.size #[.int .i64 0, .int .i64 0, .int .i64 0, .int .i64 0, .int .i64 0, .int .i64 0, .int .i64 0, .int .i64 0, .int .u32 0, .int .u64 0, .int .u64 0, .int .u64 0, .int .u64 0, .slice none 0 0, .int .i64 0, .bool false, .slice none 0 0] #[.int .i64 0, .int .i64 0, .int .i64 0, .int .i64 0, .int .i64 0, .int .i64 0, .int .i64 0, .int .i64 0, .int .u32 0, .int .u64 0, .int .u64 0, .int .u64 0, .int .u64 0, .slice none 0 0, .int .i64 0, .bool false, .slice none 0 0] zs17 zs17 za17 H2.out.pc.z0 (by rfl) (by rfl) ?_))
              rw [hQB.out]
              exact bodyPost_ret (v := .tuple #[.agg #[.int .i64 0, .int .i64 0, .int .i64 0, .int .i64 0, .int .i64 0, .int .i64 0, .int .i64 0, .int .i64 0, .int .u32 0, .int .u64 0, .int .u64 0, .int .u64 0, .int .u64 0, .slice none 0 0, .int .i64 0, .bool false, .slice none 0 0], .int .i64 32]) (res_pk2 Try.results18 _ _ w.heap.size _ _ (by rfl) (by rfl) (Bk.row H2.out.pc.z0) (by rfl)) rfl (DcR.err HE.out (by decide) (Bk.below_row H2.out.pc.bl H2.out.pc.z0.lt))

          · have hx3 : NI < 28 := by omega
            clear hx
            go_wp2_with (first | (refine step_ld _ (by rfl) (by rfl) (w.heap.size + 1) #[.int .i64 0, .int .i64 0, .int .i64 0, .int .i64 0, .int .i64 0, .int .i64 0, .int .i64 0, .int .i64 0, .int .u32 0, .int .u64 0, .int .u64 0, .int .u64 0, .int .u64 0, .slice none 0 0, .int .i64 0, .bool false, .slice none 0 0] zs17 H2.out.pc.z1 (by rfl) ?_) | (refine step_st _ _ (by rfl) (by rfl) w.heap.size #[.int .i64 0, .int .i64 0, .int .i64 0, .int .i64 0, .int .i64 0, .int .i64 0, .int .i64 0, .int .i64 0, .int .u32 0, .int .u64 0, .int .u64 0, .int .u64 0, .int .u64 0, .slice none 0 0, .int .i64 0, .bool false, .slice none 0 0] #[.int .i64 0, .int .i64 0, .int .i64 0, .int .i64 0, .int .i64 0, .int .i64 0, .int .i64 0, .int .i64 0, .int .u32 0, .int .u64 0, .int .u64 0, .int .u64 0, .int .u64 0, .slice none 0 0, .int .i64 0, .bool false, .slice none 0 0] zs17 zs17 za17 H2.out.pc.z0 (by rfl) (by rfl) ?_))
            rw [hQB.out]
            exact bodyPost_ret (v := .tuple #[.agg #[.int .i64 0, .int .i64 0, .int .i64 0, .int .i64 0, .int .i64 0, .int .i64 0, .int .i64 0, .int .i64 0, .int .u32 0, .int .u64 0, .int .u64 0, .int .u64 0, .int .u64 0, .slice none 0 0, .int .i64 0, .bool false, .slice none 0 0], .int .i64 32]) (res_pk2 Try.results18 _ _ w.heap.size _ _ (by rfl) (by rfl) (Bk.row H2.out.pc.z0) (by rfl)) rfl (DcR.err HE.out (by decide) (Bk.below_row H2.out.pc.bl H2.out.pc.z0.lt))

    · have HB2 : Hid (b2.length ≤ 24) := by have := HL2.out; have := HLI.out; show _ ≤ _; omega
      go_wp2_with fail
      rw [show RE = rdEnd Try.f18 from hRE.out.trans (by kernel_rfl)]
      rw [hQB.out]
      exact rd_end bs w HLE.out.1 HLE.out.2 LP VR MD x1 x2 x3 D6 D7 y8 y9 y10 y11 y12 HH.out HV.out ea en ec xs ao2 L2 cap2 b2 _ H2.out HB2.out _ _ _ _ _ _ _ _ _ _ _ _ _ _ _ _ _ _ _ _ _ _ _ _ _ _ _ _ _ _ _ _ _ _ _ _ _ _ _ _ _ _ _ _ _ _ _ _ _ _ _ _ _ _ _ _ _ _ _ _ _ _ _ _ _ _ _ _ _ _ _ _ _ _ _ _ _ _ _ _ _ _ _ _ _ _ _ _ _ _ _ _ _ _ _ _ _ _ _ _ _ _ _ _ _ _ _ _ _ _ _ _ _ _ _ _ _ _ _ _ _ _ _ _ _ _ _ _ _ _ _ _ _ _ _ _ _ _ _ _ _ _ _ _ _ _ _ _ _ _ _ _ _ _ _ _
end Go.Proofs.Ytdobghhjlfffpaa
