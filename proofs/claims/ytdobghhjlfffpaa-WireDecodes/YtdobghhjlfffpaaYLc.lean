/- The reference's Decode of packets of time: its header behind the first four bytes. -/
import Derived.Test.YtdobghhjlfffpaaYLb
namespace Go.Proofs.Ytdobghhjlfffpaa
open Go.RowKit
set_option linter.unusedVariables false
set_option maxRecDepth 40000 in
set_option maxHeartbeats 8000000 in
theorem rd_fields (ao : Option Addr) (L cap : Nat) (bs : List Int) (w wc : World) (h : Sv w.heap.size w (.slice ao L cap) bs) (h48 : 48 ≤ bs.length) (h512 : bs.length ≤ 512) (LP VR MD x1 x2 x3 : Int) (hh6 : hdD bs = ⟨LP, VR, MD, x1, sg x2, sg x3, fv bs 4 4 * 65536, fv bs 8 4 * 65536, fv bs 12 4, fv bs 16 8, fv bs 24 8, fv bs 32 8, fv bs 40 8⟩) (hvm : vmB bs = (wiB VR 1 4 && wiB MD 1 5)) (hP : PC w wc #[.int .i64 LP, .int .i64 VR, .int .i64 MD, .int .i64 x1, .int .i64 (sg x2), .int .i64 (sg x3), .int .i64 0, .int .i64 0, .int .u32 0, .int .u64 0, .int .u64 0, .int .u64 0, .int .u64 0, .slice none 0 0, .int .i64 0, .bool false, .slice none 0 0]) (v1 v3 v6 v7 v8 v9 v10 v11 v12 v13 v14 v15 v16 v17 v18 v19 v20 v21 v22 v23 v24 v25 v26 v27 v28 v29 v30 v31 v32 v33 v34 v35 v36 v37 v38 v39 v40 v41 v42 v43 v44 v45 v46 v47 v48 v49 v50 v51 v52 v53 v54 v55 v56 v57 v58 v59 v60 v61 v62 v63 v64 v65 v66 v67 v68 v69 v70 v71 v72 v73 v74 v75 v76 v77 v78 v79 v80 v81 v82 v83 v84 v85 v86 v87 v88 v89 v90 v91 v92 v93 v94 v95 v96 v97 v98 v99 v100 v101 v102 v103 v104 v105 v106 v107 v108 v109 v110 v111 v112 v113 v114 v115 v116 v117 v118 v119 v120 v121 v122 v123 v124 v125 v126 v127 v128 v129 v130 v131 v132 v133 v134 v135 v136 v137 v138 v139 v140 v141 v142 v143 v144 v145 v146 v147 v148 v149 v150 v151 v152 v153 v154 v155 v156 v157 v158 v159 : Value) :
    Code.wp Try.prog (rdFields Try.f18) (bodyPost Try.prog Try.f18 (fun e w9 => DcR bs w e w9)) { tmps := #[.slice ao L cap, v1, .pointer (some ⟨w.heap.size, 0, none⟩), v3, .pointer (some ⟨w.heap.size + 1, 0, none⟩), .pointer (some ⟨w.heap.size + 2, 0, none⟩), v6, v7, v8, v9, v10, v11, v12, v13, v14, v15, v16, v17, v18, v19, v20, v21, v22, v23, v24, v25, v26, v27, v28, v29, v30, v31, v32, v33, v34, v35, v36, v37, v38, v39, v40, v41, v42, v43, v44, v45, v46, v47, v48, v49, v50, v51, v52, v53, v54, v55, v56, v57, v58, v59, v60, v61, v62, v63, v64, v65, v66, v67, v68, v69, v70, v71, v72, v73, v74, v75, v76, v77, v78, v79, v80, v81, v82, v83, v84, v85, v86, v87, v88, v89, v90, v91, v92, v93, v94, v95, v96, v97, v98, v99, v100, v101, v102, v103, v104, v105, v106, v107, v108, v109, v110, v111, v112, v113, v114, v115, v116, v117, v118, v119, v120, v121, v122, v123, v124, v125, v126, v127, v128, v129, v130, v131, v132, v133, v134, v135, v136, v137, v138, v139, v140, v141, v142, v143, v144, v145, v146, v147, v148, v149, v150, v151, v152, v153, v154, v155, v156, v157, v158, v159], defers := [] } wc := by
  have H : Hid (Sv w.heap.size w (.slice ao L cap) bs) := h
  have HLE : Hid (48 ≤ bs.length ∧ bs.length ≤ 512) := ⟨h48, h512⟩
  obtain ⟨ao', cap', hv, hc, hcn, hrs, hok⟩ := h
  injection hv with p1 p2 p3
  subst p1 p3
  have hL : L = bs.length := p2
  clear p2
  have l48 : (48 : Int) ≤ L := by omega
  have l512 : (L : Int) ≤ 512 := by omega
  have hcL : (L : Int) ≤ cap := by omega
  have HB : Hid (okb bs ∧ Rs w.heap.size w ao bs) := ⟨hok, hrs⟩
  have HLL : Hid (L = bs.length) := hL
  clear hc hcn hrs hok hL h48 h512
  obtain ⟨s6, r6, q6⟩ := sub_mid H.out 4 8 4 8 rfl rfl (by omega) (by have := HLE.out; omega)
  obtain ⟨y6, hy6⟩ : ∃ y, y = fv bs 4 4 := ⟨_, rfl⟩
  have HG6 : Hid (∀ v, Below w.heap.size w v → Calls Try.prog 43 #[s6] v fun e' w2 => e' = .returned (.int .u64 y6) ∧ w2 = v) := fun v hb => by
    rw [hy6]; exact get_any w.heap.size _ _ v (q6.below hb (Nat.le_refl _)) (by rw [List.length_take]; omega)
  obtain ⟨y60, y61⟩ := gtw_bd (okb_take (okb_drop HB.out.1 4) 4) 4 (by rw [List.length_take]; omega)
  have y62 : 0 ≤ y6 := by rw [hy6]; exact y60
  have y63 : y6 < 4294967296 := by rw [hy6]; exact y61
  have HY6 : Hid (y6 = fv bs 4 4) := hy6
  clear y60 y61 hy6 q6
  obtain ⟨s7, r7, q7⟩ := sub_mid H.out 8 12 8 12 rfl rfl (by omega) (by have := HLE.out; omega)
  obtain ⟨y7, hy7⟩ : ∃ y, y = fv bs 8 4 := ⟨_, rfl⟩
  have HG7 : Hid (∀ v, Below w.heap.size w v → Calls Try.prog 43 #[s7] v fun e' w2 => e' = .returned (.int .u64 y7) ∧ w2 = v) := fun v hb => by
    rw [hy7]; exact get_any w.heap.size _ _ v (q7.below hb (Nat.le_refl _)) (by rw [List.length_take]; omega)
  obtain ⟨y70, y71⟩ := gtw_bd (okb_take (okb_drop HB.out.1 8) 4) 4 (by rw [List.length_take]; omega)
  have y72 : 0 ≤ y7 := by rw [hy7]; exact y70
  have y73 : y7 < 4294967296 := by rw [hy7]; exact y71
  have HY7 : Hid (y7 = fv bs 8 4) := hy7
  clear y70 y71 hy7 q7
  obtain ⟨s8, r8, q8⟩ := sub_mid H.out 12 16 12 16 rfl rfl (by omega) (by have := HLE.out; omega)
  obtain ⟨y8, hy8⟩ : ∃ y, y = fv bs 12 4 := ⟨_, rfl⟩
  have HG8 : Hid (∀ v, Below w.heap.size w v → Calls Try.prog 43 #[s8] v fun e' w2 => e' = .returned (.int .u64 y8) ∧ w2 = v) := fun v hb => by
    rw [hy8]; exact get_any w.heap.size _ _ v (q8.below hb (Nat.le_refl _)) (by rw [List.length_take]; omega)
  obtain ⟨y80, y81⟩ := gtw_bd (okb_take (okb_drop HB.out.1 12) 4) 4 (by rw [List.length_take]; omega)
  have y82 : 0 ≤ y8 := by rw [hy8]; exact y80
  have y83 : y8 < 4294967296 := by rw [hy8]; exact y81
  have HY8 : Hid (y8 = fv bs 12 4) := hy8
  clear y80 y81 hy8 q8
  obtain ⟨s9, r9, q9⟩ := sub_mid H.out 16 24 16 24 rfl rfl (by omega) (by have := HLE.out; omega)
  obtain ⟨y9, hy9⟩ : ∃ y, y = fv bs 16 8 := ⟨_, rfl⟩
  have HG9 : Hid (∀ v, Below w.heap.size w v → Calls Try.prog 43 #[s9] v fun e' w2 => e' = .returned (.int .u64 y9) ∧ w2 = v) := fun v hb => by
    rw [hy9]; exact get_any w.heap.size _ _ v (q9.below hb (Nat.le_refl _)) (by rw [List.length_take]; omega)
  obtain ⟨y90, y91⟩ := gtw_bd (okb_take (okb_drop HB.out.1 16) 8) 8 (by rw [List.length_take]; omega)
  have y92 : 0 ≤ y9 := by rw [hy9]; exact y90
  have y93 : y9 < 18446744073709551616 := by rw [hy9]; exact y91
  have HY9 : Hid (y9 = fv bs 16 8) := hy9
  clear y90 y91 hy9 q9
  obtain ⟨s10, r10, q10⟩ := sub_mid H.out 24 32 24 32 rfl rfl (by omega) (by have := HLE.out; omega)
  obtain ⟨y10, hy10⟩ : ∃ y, y = fv bs 24 8 := ⟨_, rfl⟩
  have HG10 : Hid (∀ v, Below w.heap.size w v → Calls Try.prog 43 #[s10] v fun e' w2 => e' = .returned (.int .u64 y10) ∧ w2 = v) := fun v hb => by
    rw [hy10]; exact get_any w.heap.size _ _ v (q10.below hb (Nat.le_refl _)) (by rw [List.length_take]; omega)
  obtain ⟨y100, y101⟩ := gtw_bd (okb_take (okb_drop HB.out.1 24) 8) 8 (by rw [List.length_take]; omega)
  have y102 : 0 ≤ y10 := by rw [hy10]; exact y100
  have y103 : y10 < 18446744073709551616 := by rw [hy10]; exact y101
  have HY10 : Hid (y10 = fv bs 24 8) := hy10
  clear y100 y101 hy10 q10
  obtain ⟨s11, r11, q11⟩ := sub_mid H.out 32 40 32 40 rfl rfl (by omega) (by have := HLE.out; omega)
  obtain ⟨y11, hy11⟩ : ∃ y, y = fv bs 32 8 := ⟨_, rfl⟩
  have HG11 : Hid (∀ v, Below w.heap.size w v → Calls Try.prog 43 #[s11] v fun e' w2 => e' = .returned (.int .u64 y11) ∧ w2 = v) := fun v hb => by
    rw [hy11]; exact get_any w.heap.size _ _ v (q11.below hb (Nat.le_refl _)) (by rw [List.length_take]; omega)
  obtain ⟨y110, y111⟩ := gtw_bd (okb_take (okb_drop HB.out.1 32) 8) 8 (by rw [List.length_take]; omega)
  have y112 : 0 ≤ y11 := by rw [hy11]; exact y110
  have y113 : y11 < 18446744073709551616 := by rw [hy11]; exact y111
  have HY11 : Hid (y11 = fv bs 32 8) := hy11
  clear y110 y111 hy11 q11
  obtain ⟨s12, r12, q12⟩ := sub_mid H.out 40 48 40 48 rfl rfl (by omega) (by have := HLE.out; omega)
  obtain ⟨y12, hy12⟩ : ∃ y, y = fv bs 40 8 := ⟨_, rfl⟩
  have HG12 : Hid (∀ v, Below w.heap.size w v → Calls Try.prog 43 #[s12] v fun e' w2 => e' = .returned (.int .u64 y12) ∧ w2 = v) := fun v hb => by
    rw [hy12]; exact get_any w.heap.size _ _ v (q12.below hb (Nat.le_refl _)) (by rw [List.length_take]; omega)
  obtain ⟨y120, y121⟩ := gtw_bd (okb_take (okb_drop HB.out.1 40) 8) 8 (by rw [List.length_take]; omega)
  have y122 : 0 ≤ y12 := by rw [hy12]; exact y120
  have y123 : y12 < 18446744073709551616 := by rw [hy12]; exact y121
  have HY12 : Hid (y12 = fv bs 40 8) := hy12
  clear y120 y121 hy12 q12
  obtain ⟨s13, r13, q13⟩ := sub_drop H.out 48 48 rfl (by have := HLE.out; omega)
  obtain ⟨a13, c13, h13, -⟩ := id q13
  subst h13
  obtain ⟨n13, hn13⟩ : ∃ n, n = (bs.drop 48).length := ⟨_, rfl⟩
  rw [← hn13] at q13 r13
  have HQ : Hid (Sv w.heap.size w (.slice a13 n13 c13) (bs.drop 48)) := q13
  clear q13 hn13
  obtain ⟨D6, hD6⟩ : ∃ A, A = y6 * 65536 := ⟨_, rfl⟩
  obtain ⟨D7, hD7⟩ : ∃ A, A = y7 * 65536 := ⟨_, rfl⟩
  have HF6 : Hid (∀ v, Calls Try.prog 42 #[.int .u32 y6] v fun e' w2 => e' = .returned (.int .i64 D6) ∧ w2 = v) := fun v => by rw [hD6]; exact rfromShort_any y6 v y62 y63
  have HF7 : Hid (∀ v, Calls Try.prog 42 #[.int .u32 y7] v fun e' w2 => e' = .returned (.int .i64 D7) ∧ w2 = v) := fun v => by rw [hD7]; exact rfromShort_any y7 v y72 y73
  have HH : Hid ((⟨LP, VR, MD, x1, sg x2, sg x3, D6, D7, y8, y9, y10, y11, y12⟩ : Hd) = hdD bs) := by
    show _ = _
    rw [hh6, ← HY6.out, ← HY7.out, ← HY8.out, ← HY9.out, ← HY10.out, ← HY11.out, ← HY12.out, ← hD6, ← hD7]
  have HVM : Hid (vmB bs = (wiB VR 1 4 && wiB MD 1 5)) := hvm
  have P5 : Hid (PC w wc #[.int .i64 LP, .int .i64 VR, .int .i64 MD, .int .i64 x1, .int .i64 (sg x2), .int .i64 (sg x3), .int .i64 0, .int .i64 0, .int .u32 0, .int .u64 0, .int .u64 0, .int .u64 0, .int .u64 0, .slice none 0 0, .int .i64 0, .bool false, .slice none 0 0]) := hP
  clear hh6 hvm hP hD6 hD7
  have t1 : wc.cell? ⟨w.heap.size + 2, 1, none⟩ = some (.int .i64 VR) := P5.out.c.cell 1
  have t2 : wc.cell? ⟨w.heap.size + 2, 2, none⟩ = some (.int .i64 MD) := P5.out.c.cell 2
  rw [show rdFields Try.f18 = seqTo3 9 (rdFields Try.f18) (rdLoop Try.f18) by kernel_rfl]
  obtain ⟨CL, hCL⟩ : ∃ c, c = rdLoop Try.f18 := ⟨_, rfl⟩
  rw [← hCL]
  have HCL : Hid (CL = rdLoop Try.f18) := hCL
  clear hCL
  refine post_hid3 fun QB hQB => ?_
  unfold rdFields Try.f18
  simp only [dropSeq3, seqTo3, Option.getD_some]
  cases hC1 : wiB VR 1 4
  · have HE : Hid (dcE bs = 32) := dcE_vm HLE.out.1 HLE.out.2 (by rw [HVM.out, hC1]; rfl)
    go_wp2_with (first | (go_at_call 41; refine (rwithin_any _ _ _ _).mono ?_; rintro e' w9 ⟨rfl, hw9⟩; rw [hw9]; clear hw9) | (refine step_pk (by rfl) _ (by rfl) (w.heap.size + 1) (by rfl) #[.int .i64 0, .int .i64 0, .int .i64 0, .int .i64 0, .int .i64 0, .int .i64 0, .int .i64 0, .int .i64 0, .int .u32 0, .int .u64 0, .int .u64 0, .int .u64 0, .int .u64 0, .slice none 0 0, .int .i64 0, .bool false, .slice none 0 0] (by rfl) ?_ ?_; exact P5.out.z1) | (refine step_spk (by rfl) _ _ (by rfl) w.heap.size #[.int .i64 0, .int .i64 0, .int .i64 0, .int .i64 0, .int .i64 0, .int .i64 0, .int .i64 0, .int .i64 0, .int .u32 0, .int .u64 0, .int .u64 0, .int .u64 0, .int .u64 0, .slice none 0 0, .int .i64 0, .bool false, .slice none 0 0] (by rfl) (by rfl) #[.int .i64 0, .int .i64 0, .int .i64 0, .int .i64 0, .int .i64 0, .int .i64 0, .int .i64 0, .int .i64 0, .int .u32 0, .int .u64 0, .int .u64 0, .int .u64 0, .int .u64 0, .slice none 0 0, .int .i64 0, .bool false, .slice none 0 0] ?_ (by rfl) (by rfl) (by kernel_rfl) ?_; exact P5.out.z0))
    rw [hQB.out]
    exact bodyPost_ret (v := .tuple #[.agg #[.int .i64 0, .int .i64 0, .int .i64 0, .int .i64 0, .int .i64 0, .int .i64 0, .int .i64 0, .int .i64 0, .int .u32 0, .int .u64 0, .int .u64 0, .int .u64 0, .int .u64 0, .slice none 0 0, .int .i64 0, .bool false, .slice none 0 0], .int .i64 32]) (res_pk2 Try.results18 _ _ w.heap.size _ _ (by rfl) (by rfl) (Bk.row P5.out.z0) (by rfl)) rfl (DcR.err HE.out (by decide) (Bk.below_row P5.out.bl P5.out.z0.lt))

  cases hC2 : wiB MD 1 5
  · have HE : Hid (dcE bs = 32) := dcE_vm HLE.out.1 HLE.out.2 (by rw [HVM.out, hC1, hC2]; rfl)
    go_wp2_with (first | (go_at_call 41; refine (rwithin_any _ _ _ _).mono ?_; rintro e' w9 ⟨rfl, hw9⟩; rw [hw9]; clear hw9) | (refine step_pk (by rfl) _ (by rfl) (w.heap.size + 1) (by rfl) #[.int .i64 0, .int .i64 0, .int .i64 0, .int .i64 0, .int .i64 0, .int .i64 0, .int .i64 0, .int .i64 0, .int .u32 0, .int .u64 0, .int .u64 0, .int .u64 0, .int .u64 0, .slice none 0 0, .int .i64 0, .bool false, .slice none 0 0] (by rfl) ?_ ?_; exact P5.out.z1) | (refine step_spk (by rfl) _ _ (by rfl) w.heap.size #[.int .i64 0, .int .i64 0, .int .i64 0, .int .i64 0, .int .i64 0, .int .i64 0, .int .i64 0, .int .i64 0, .int .u32 0, .int .u64 0, .int .u64 0, .int .u64 0, .int .u64 0, .slice none 0 0, .int .i64 0, .bool false, .slice none 0 0] (by rfl) (by rfl) #[.int .i64 0, .int .i64 0, .int .i64 0, .int .i64 0, .int .i64 0, .int .i64 0, .int .i64 0, .int .i64 0, .int .u32 0, .int .u64 0, .int .u64 0, .int .u64 0, .int .u64 0, .slice none 0 0, .int .i64 0, .bool false, .slice none 0 0] ?_ (by rfl) (by rfl) (by kernel_rfl) ?_; exact P5.out.z0))
    rw [hQB.out]
    exact bodyPost_ret (v := .tuple #[.agg #[.int .i64 0, .int .i64 0, .int .i64 0, .int .i64 0, .int .i64 0, .int .i64 0, .int .i64 0, .int .i64 0, .int .u32 0, .int .u64 0, .int .u64 0, .int .u64 0, .int .u64 0, .slice none 0 0, .int .i64 0, .bool false, .slice none 0 0], .int .i64 32]) (res_pk2 Try.results18 _ _ w.heap.size _ _ (by rfl) (by rfl) (Bk.row P5.out.z0) (by rfl)) rfl (DcR.err HE.out (by decide) (Bk.below_row P5.out.bl P5.out.z0.lt))

  have HV : Hid (vmB bs = true) := by show _ = _; rw [HVM.out, hC1, hC2]; rfl
  go_wp2_with (go_at_call 41; refine (rwithin_any _ _ _ _).mono ?_; rintro e' w9 ⟨rfl, hw9⟩; rw [hw9]; clear hw9)
  clear t1 t2 hC1 hC2 HVM
  refine (HG6.out _ P5.out.bl).mono ?_
  rintro e' W6 ⟨rfl, hW⟩
  have P6 : Hid (PC w W6 #[.int .i64 LP, .int .i64 VR, .int .i64 MD, .int .i64 x1, .int .i64 (sg x2), .int .i64 (sg x3), .int .i64 0, .int .i64 0, .int .u32 0, .int .u64 0, .int .u64 0, .int .u64 0, .int .u64 0, .slice none 0 0, .int .i64 0, .bool false, .slice none 0 0]) := by rw [hW]; exact P5.out
  clear hW P5
  have u6 := P6.out.c.cell 6
  have uf6 := P6.out.c.frozen 6
  simp only [List.getElem?_toArray, List.getElem?_cons_zero, List.getElem?_cons_succ] at u6
  go_wp2_with fail
  refine (HF6.out _).mono ?_
  rintro e' w9 ⟨rfl, hw9⟩
  rw [hw9]
  clear hw9
  go_wp2_with fail
  refine (HG7.out _ (P6.out.set 6 _).bl).mono ?_
  rintro e' W7 ⟨rfl, hW⟩
  have P7 : Hid (PC w W7 #[.int .i64 LP, .int .i64 VR, .int .i64 MD, .int .i64 x1, .int .i64 (sg x2), .int .i64 (sg x3), .int .i64 D6, .int .i64 0, .int .u32 0, .int .u64 0, .int .u64 0, .int .u64 0, .int .u64 0, .slice none 0 0, .int .i64 0, .bool false, .slice none 0 0]) := by rw [hW]; exact (P6.out.set 6 _)
  clear hW P6 u6 uf6
  have u7 := P7.out.c.cell 7
  have uf7 := P7.out.c.frozen 7
  simp only [List.getElem?_toArray, List.getElem?_cons_zero, List.getElem?_cons_succ] at u7
  go_wp2_with fail
  refine (HF7.out _).mono ?_
  rintro e' w9 ⟨rfl, hw9⟩
  rw [hw9]
  clear hw9
  go_wp2_with fail
  refine (HG8.out _ (P7.out.set 7 _).bl).mono ?_
  rintro e' W8 ⟨rfl, hW⟩
  have P8 : Hid (PC w W8 #[.int .i64 LP, .int .i64 VR, .int .i64 MD, .int .i64 x1, .int .i64 (sg x2), .int .i64 (sg x3), .int .i64 D6, .int .i64 D7, .int .u32 0, .int .u64 0, .int .u64 0, .int .u64 0, .int .u64 0, .slice none 0 0, .int .i64 0, .bool false, .slice none 0 0]) := by rw [hW]; exact (P7.out.set 7 _)
  clear hW P7 u7 uf7
  have u8 := P8.out.c.cell 8
  have uf8 := P8.out.c.frozen 8
  simp only [List.getElem?_toArray, List.getElem?_cons_zero, List.getElem?_cons_succ] at u8
  go_wp2_with fail
  refine (HG9.out _ (P8.out.set 8 _).bl).mono ?_
  rintro e' W9 ⟨rfl, hW⟩
  have P9 : Hid (PC w W9 #[.int .i64 LP, .int .i64 VR, .int .i64 MD, .int .i64 x1, .int .i64 (sg x2), .int .i64 (sg x3), .int .i64 D6, .int .i64 D7, .int .u32 y8, .int .u64 0, .int .u64 0, .int .u64 0, .int .u64 0, .slice none 0 0, .int .i64 0, .bool false, .slice none 0 0]) := by rw [hW]; exact (P8.out.set 8 _)
  clear hW P8 u8 uf8
  have u9 := P9.out.c.cell 9
  have uf9 := P9.out.c.frozen 9
  simp only [List.getElem?_toArray, List.getElem?_cons_zero, List.getElem?_cons_succ] at u9
  go_wp2_with fail
  refine (HG10.out _ (P9.out.set 9 _).bl).mono ?_
  rintro e' W10 ⟨rfl, hW⟩
  have P10 : Hid (PC w W10 #[.int .i64 LP, .int .i64 VR, .int .i64 MD, .int .i64 x1, .int .i64 (sg x2), .int .i64 (sg x3), .int .i64 D6, .int .i64 D7, .int .u32 y8, .int .u64 y9, .int .u64 0, .int .u64 0, .int .u64 0, .slice none 0 0, .int .i64 0, .bool false, .slice none 0 0]) := by rw [hW]; exact (P9.out.set 9 _)
  clear hW P9 u9 uf9
  have u10 := P10.out.c.cell 10
  have uf10 := P10.out.c.frozen 10
  simp only [List.getElem?_toArray, List.getElem?_cons_zero, List.getElem?_cons_succ] at u10
  go_wp2_with fail
  refine (HG11.out _ (P10.out.set 10 _).bl).mono ?_
  rintro e' W11 ⟨rfl, hW⟩
  have P11 : Hid (PC w W11 #[.int .i64 LP, .int .i64 VR, .int .i64 MD, .int .i64 x1, .int .i64 (sg x2), .int .i64 (sg x3), .int .i64 D6, .int .i64 D7, .int .u32 y8, .int .u64 y9, .int .u64 y10, .int .u64 0, .int .u64 0, .slice none 0 0, .int .i64 0, .bool false, .slice none 0 0]) := by rw [hW]; exact (P10.out.set 10 _)
  clear hW P10 u10 uf10
  have u11 := P11.out.c.cell 11
  have uf11 := P11.out.c.frozen 11
  simp only [List.getElem?_toArray, List.getElem?_cons_zero, List.getElem?_cons_succ] at u11
  go_wp2_with fail
  refine (HG12.out _ (P11.out.set 11 _).bl).mono ?_
  rintro e' W12 ⟨rfl, hW⟩
  have P12 : Hid (PC w W12 #[.int .i64 LP, .int .i64 VR, .int .i64 MD, .int .i64 x1, .int .i64 (sg x2), .int .i64 (sg x3), .int .i64 D6, .int .i64 D7, .int .u32 y8, .int .u64 y9, .int .u64 y10, .int .u64 y11, .int .u64 0, .slice none 0 0, .int .i64 0, .bool false, .slice none 0 0]) := by rw [hW]; exact (P11.out.set 11 _)
  clear hW P11 u11 uf11
  have u12 := P12.out.c.cell 12
  have uf12 := P12.out.c.frozen 12
  simp only [List.getElem?_toArray, List.getElem?_cons_zero, List.getElem?_cons_succ] at u12
  go_wp2_with fail
  have P13 : Hid (PC w (W12.setCell ⟨w.heap.size + 2, 12, none⟩ (.int .u64 y12)) #[.int .i64 LP, .int .i64 VR, .int .i64 MD, .int .i64 x1, .int .i64 (sg x2), .int .i64 (sg x3), .int .i64 D6, .int .i64 D7, .int .u32 y8, .int .u64 y9, .int .u64 y10, .int .u64 y11, .int .u64 y12, .slice none 0 0, .int .i64 0, .bool false, .slice none 0 0]) := P12.out.set 12 _
  clear P12 u12 uf12
  rw [HCL.out, hQB.out]
  exact rd_loop bs w HLE.out.1 HLE.out.2 LP VR MD x1 x2 x3 D6 D7 y8 y9 y10 y11 y12 HH.out HV.out a13 n13 c13 _ HQ.out P13.out _ _ _ _ _ _ _ _ _ _ _ _ _ _ _ _ _ _ _ _ _ _ _ _ _ _ _ _ _ _ _ _ _ _ _ _ _ _ _ _ _ _ _ _ _ _ _ _ _ _ _ _ _ _ _ _ _ _ _ _ _ _ _ _ _ _ _ _ _ _ _ _ _ _ _ _ _ _ _ _ _ _ _ _ _ _ _ _ _ _ _ _ _ _ _ _ _ _ _ _ _ _ _ _ _ _ _ _ _ _ _ _ _ _ _ _ _ _ _ _ _ _ _ _ _ _ _ _ _ _ _ _ _ _ _ _ _ _ _ _ _ _ _ _ _ _ _ _ _ _ _ _ _ _ _ _
end Go.Proofs.Ytdobghhjlfffpaa
