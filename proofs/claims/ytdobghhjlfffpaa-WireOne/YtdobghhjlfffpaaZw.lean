/- The reference's Decode of packets of time: its header behind the first four bytes. -/
import Derived.Test.YtdobghhjlfffpaaYLb
import Derived.Test.YtdobghhjlfffpaaYI
import Derived.Deep.CutRange
import Derived.Test.YtdobghhjlfffpaaZB
import Derived.Test.YtdobghhjlfffpaaYD
import Derived.Test.YtdobghhjlfffpaaYG
import Derived.Test.YtdobghhjlfffpaaXK
import Derived.Test.YtdobghhjlfffpaaXM
import Derived.Test.YtdobghhjlfffpaaWK
namespace Go.Proofs.Ytdobghhjlfffpaa
open Go.RowKit
set_option linter.unusedVariables false
set_option maxRecDepth 40000 in
set_option maxHeartbeats 8000000 in
theorem rd_fields (ao : Option Addr) (L cap : Nat) (bs : List Int) (w wc : World) (h : Sv w.heap.size w (.slice ao L cap) bs) (h48 : 48 ≤ bs.length) (h512 : bs.length ≤ 512) (LP VR MD x1 x2 x3 : Int) (hh6 : hdD bs = ⟨LP, VR, MD, x1, sg x2, sg x3, fv bs 4 4 * 65536, fv bs 8 4 * 65536, fv bs 12 4, fv bs 16 8, fv bs 24 8, fv bs 32 8, fv bs 40 8⟩) (hvm : vmB bs = (wiB VR 1 4 && wiB MD 1 5)) (hP : PC w wc #[.int .i64 LP, .int .i64 VR, .int .i64 MD, .int .i64 x1, .int .i64 (sg x2), .int .i64 (sg x3), .int .i64 0, .int .i64 0, .int .u32 0, .int .u64 0, .int .u64 0, .int .u64 0, .int .u64 0, .slice none 0 0, .int .i64 0, .bool false, .slice none 0 0]) (v1 v3 v6 v7 v8 v9 v10 v11 v12 v13 v14 v15 v16 v17 v18 v19 v20 v21 v22 v23 v24 v25 v26 v27 v28 v29 v30 v31 v32 v33 v34 v35 v36 v37 v38 v39 v40 v41 v42 v43 v44 v45 v46 v47 v48 v49 v50 v51 v52 v53 v54 v55 v56 v57 v58 v59 v60 v61 v62 v63 v64 v65 v66 v67 v68 v69 v70 v71 v72 v73 v74 v75 v76 v77 v78 v79 v80 v81 v82 v83 v84 v85 v86 v87 v88 v89 v90 v91 v92 v93 v94 v95 v96 v97 v98 v99 v100 v101 v102 v103 v104 v105 v106 v107 v108 v109 v110 v111 v112 v113 v114 v115 v116 v117 v118 v119 v120 v121 v122 v123 v124 v125 v126 v127 v128 v129 v130 v131 v132 v133 v134 v135 v136 v137 v138 v139 v140 v141 v142 v143 v144 v145 v146 v147 v148 v149 v150 v151 v152 v153 v154 v155 v156 v157 v158 v159 : Value) :
    Code.wp Try.prog (rdFields Try.f18) (bodyPost Try.prog Try.f18 (fun e w9 => DcR bs w e w9)) { tmps := #[.slice ao L cap, v1, .pointer (some ⟨w.heap.size, 0, none⟩), v3, .pointer (some ⟨w.heap.size + 1, 0, none⟩), .pointer (some ⟨w.heap.size + 2, 0, none⟩), v6, v7, v8, v9, v10, v11, v12, v13, v14, v15, v16, v17, v18, v19, v20, v21, v22, v23, v24, v25, v26, v27, v28, v29, v30, v31, v32, v33, v34, v35, v36, v37, v38, v39, v40, v41, v42, v43, v44, v45, v46, v47, v48, v49, v50, v51, v52, v53, v54, v55, v56, v57, v58, v59, v60, v61, v62, v63, v64, v65, v66, v67, v68, v69, v70, v71, v72, v73, v74, v75, v76, v77, v78, v79, v80, v81, v82, v83, v84, v85, v86, v87, v88, v89, v90, v91, v92, v93, v94, v95, v96, v97, v98, v99, v100, v101, v102, v103, v104, v105, v106, v107, v108, v109, v110, v111, v112, v113, v114, v115, v116, v117, v118, v119, v120, v121, v122, v123, v124, v125, v126, v127, v128, v129, v130, v131, v132, v133, v134, v135, v136, v137, v138, v139, v140, v141, v142, v143, v144, v145, v146, v147, v148, v149, v150, v151, v152, v153, v154, v155, v156, v157, v158, v159], defers := [] } wc := by
  have H : Hid (Sv w.heap.size w (.slice ao L cap) bs) := h
  have HLE : Hid (48 ≤ bs.length ∧ bs.length ≤ 512) := ⟨h48, h512⟩
  obtain ⟨ao', cap', hv, hc, hcn, hrs, hok⟩ := h
  injection hv with p1 p2 p3
  subst p1 p3
  have hL : L = bs.length := p2
  clear p2
  have l48 : (48 : Int) ≤ L := by omega
  have l512 : (L : Int) ≤ 512 := by omega
  have hcL : (L : Int) ≤ cap := by omega
  have HB : Hid (okb bs ∧ Rs w.heap.size w ao bs) := ⟨hok, hrs⟩
  have HLL : Hid (L = bs.length) := hL
  clear hc hcn hrs hok hL h48 h512
  obtain ⟨s6, r6, q6⟩ := sub_mid H.out 4 8 4 8 rfl rfl (by omega) (by have := HLE.out; omega)
  obtain ⟨y6, hy6⟩ : ∃ y, y = fv bs 4 4 := ⟨_, rfl⟩
  have HG6 : Hid (∀ v, Below w.heap.size w v → Calls Try.prog 43 #[s6] v fun e' w2 => e' = .returned (.int .u64 y6) ∧ w2 = v) := fun v hb => by
    rw [hy6]; exact get_any w.heap.size _ _ v (q6.below hb (Nat.le_refl _)) (by rw [List.length_take]; omega)
  obtain ⟨y60, y61⟩ := gtw_bd (okb_take (okb_drop HB.out.1 4) 4) 4 (by rw [List.length_take]; omega)
  have y62 : 0 ≤ y6 := by rw [hy6]; exact y60
  have y63 : y6 < 4294967296 := by rw [hy6]; exact y61
  have HY6 : Hid (y6 = fv bs 4 4) := hy6
  clear y60 y61 hy6 q6
  obtain ⟨s7, r7, q7⟩ := sub_mid H.out 8 12 8 12 rfl rfl (by omega) (by have := HLE.out; omega)
  obtain ⟨y7, hy7⟩ : ∃ y, y = fv bs 8 4 := ⟨_, rfl⟩
  have HG7 : Hid (∀ v, Below w.heap.size w v → Calls Try.prog 43 #[s7] v fun e' w2 => e' = .returned (.int .u64 y7) ∧ w2 = v) := fun v hb => by
    rw [hy7]; exact get_any w.heap.size _ _ v (q7.below hb (Nat.le_refl _)) (by rw [List.length_take]; omega)
  obtain ⟨y70, y71⟩ := gtw_bd (okb_take (okb_drop HB.out.1 8) 4) 4 (by rw [List.length_take]; omega)
  have y72 : 0 ≤ y7 := by rw [hy7]; exact y70
  have y73 : y7 < 4294967296 := by rw [hy7]; exact y71
  have HY7 : Hid (y7 = fv bs 8 4) := hy7
  clear y70 y71 hy7 q7
  obtain ⟨s8, r8, q8⟩ := sub_mid H.out 12 16 12 16 rfl rfl (by omega) (by have := HLE.out; omega)
  obtain ⟨y8, hy8⟩ : ∃ y, y = fv bs 12 4 := ⟨_, rfl⟩
  have HG8 : Hid (∀ v, Below w.heap.size w v → Calls Try.prog 43 #[s8] v fun e' w2 => e' = .returned (.int .u64 y8) ∧ w2 = v) := fun v hb => by
    rw [hy8]; exact get_any w.heap.size _ _ v (q8.below hb (Nat.le_refl _)) (by rw [List.length_take]; omega)
  obtain ⟨y80, y81⟩ := gtw_bd (okb_take (okb_drop HB.out.1 12) 4) 4 (by rw [List.length_take]; omega)
  have y82 : 0 ≤ y8 := by rw [hy8]; exact y80
  have y83 : y8 < 4294967296 := by rw [hy8]; exact y81
  have HY8 : Hid (y8 = fv bs 12 4) := hy8
  clear y80 y81 hy8 q8
  obtain ⟨s9, r9, q9⟩ := sub_mid H.out 16 24 16 24 rfl rfl (by omega) (by have := HLE.out; omega)
  obtain ⟨y9, hy9⟩ : ∃ y, y = fv bs 16 8 := ⟨_, rfl⟩
  have HG9 : Hid (∀ v, Below w.heap.size w v → Calls Try.prog 43 #[s9] v fun e' w2 => e' = .returned (.int .u64 y9) ∧ w2 = v) := fun v hb => by
    rw [hy9]; exact get_any w.heap.size _ _ v (q9.below hb (Nat.le_refl _)) (by rw [List.length_take]; omega)
  obtain ⟨y90, y91⟩ := gtw_bd (okb_take (okb_drop HB.out.1 16) 8) 8 (by rw [List.length_take]; omega)
  have y92 : 0 ≤ y9 := by rw [hy9]; exact y90
  have y93 : y9 < 18446744073709551616 := by rw [hy9]; exact y91
  have HY9 : Hid (y9 = fv bs 16 8) := hy9
  clear y90 y91 hy9 q9
  obtain ⟨s10, r10, q10⟩ := sub_mid H.out 24 32 24 32 rfl rfl (by omega) (by have := HLE.out; omega)
  obtain ⟨y10, hy10⟩ : ∃ y, y = fv bs 24 8 := ⟨_, rfl⟩
  have HG10 : Hid (∀ v, Below w.heap.size w v → Calls Try.prog 43 #[s10] v fun e' w2 => e' = .returned (.int .u64 y10) ∧ w2 = v) := fun v hb => by
    rw [hy10]; exact get_any w.heap.size _ _ v (q10.below hb (Nat.le_refl _)) (by rw [List.length_take]; omega)
  obtain ⟨y100, y101⟩ := gtw_bd (okb_take (okb_drop HB.out.1 24) 8) 8 (by rw [List.length_take]; omega)
  have y102 : 0 ≤ y10 := by rw [hy10]; exact y100
  have y103 : y10 < 18446744073709551616 := by rw [hy10]; exact y101
  have HY10 : Hid (y10 = fv bs 24 8) := hy10
  clear y100 y101 hy10 q10
  obtain ⟨s11, r11, q11⟩ := sub_mid H.out 32 40 32 40 rfl rfl (by omega) (by have := HLE.out; omega)
  obtain ⟨y11, hy11⟩ : ∃ y, y = fv bs 32 8 := ⟨_, rfl⟩
  have HG11 : Hid (∀ v, Below w.heap.size w v → Calls Try.prog 43 #[s11] v fun e' w2 => e' = .returned (.int .u64 y11) ∧ w2 = v) := fun v hb => by
    rw [hy11]; exact get_any w.heap.size _ _ v (q11.below hb (Nat.le_refl _)) (by rw [List.length_take]; omega)
  obtain ⟨y110, y111⟩ := gtw_bd (okb_take (okb_drop HB.out.1 32) 8) 8 (by rw [List.length_take]; omega)
  have y112 : 0 ≤ y11 := by rw [hy11]; exact y110
  have y113 : y11 < 18446744073709551616 := by rw [hy11]; exact y111
  have HY11 : Hid (y11 = fv bs 32 8) := hy11
  clear y110 y111 hy11 q11
  obtain ⟨s12, r12, q12⟩ := sub_mid H.out 40 48 40 48 rfl rfl (by omega) (by have := HLE.out; omega)
  obtain ⟨y12, hy12⟩ : ∃ y, y = fv bs 40 8 := ⟨_, rfl⟩
  have HG12 : Hid (∀ v, Below w.heap.size w v → Calls Try.prog 43 #[s12] v fun e' w2 => e' = .returned (.int .u64 y12) ∧ w2 = v) := fun v hb => by
    rw [hy12]; exact get_any w.heap.size _ _ v (q12.below hb (Nat.le_refl _)) (by rw [List.length_take]; omega)
  obtain ⟨y120, y121⟩ := gtw_bd (okb_take (okb_drop HB.out.1 40) 8) 8 (by rw [List.length_take]; omega)
  have y122 : 0 ≤ y12 := by rw [hy12]; exact y120
  have y123 : y12 < 18446744073709551616 := by rw [hy12]; exact y121
  have HY12 : Hid (y12 = fv bs 40 8) := hy12
  clear y120 y121 hy12 q12
  obtain ⟨s13, r13, q13⟩ := sub_drop H.out 48 48 rfl (by have := HLE.out; omega)
  obtain ⟨a13, c13, h13, -⟩ := id q13
  subst h13
  obtain ⟨n13, hn13⟩ : ∃ n, n = (bs.drop 48).length := ⟨_, rfl⟩
  rw [← hn13] at q13 r13
  have HQ : Hid (Sv w.heap.size w (.slice a13 n13 c13) (bs.drop 48)) := q13
  clear q13 hn13
  obtain ⟨D6, hD6⟩ : ∃ A, A = y6 * 65536 := ⟨_, rfl⟩
  obtain ⟨D7, hD7⟩ : ∃ A, A = y7 * 65536 := ⟨_, rfl⟩
  have HF6 : Hid (∀ v, Calls Try.prog 42 #[.int .u32 y6] v fun e' w2 => e' = .returned (.int .i64 D6) ∧ w2 = v) := fun v => by rw [hD6]; exact rfromShort_any y6 v y62 y63
  have HF7 : Hid (∀ v, Calls Try.prog 42 #[.int .u32 y7] v fun e' w2 => e' = .returned (.int .i64 D7) ∧ w2 = v) := fun v => by rw [hD7]; exact rfromShort_any y7 v y72 y73
  have HH : Hid ((⟨LP, VR, MD, x1, sg x2, sg x3, D6, D7, y8, y9, y10, y11, y12⟩ : Hd) = hdD bs) := by
    show _ = _
    rw [hh6, ← HY6.out, ← HY7.out, ← HY8.out, ← HY9.out, ← HY10.out, ← HY11.out, ← HY12.out, ← hD6, ← hD7]
  have HVM : Hid (vmB bs = (wiB VR 1 4 && wiB MD 1 5)) := hvm
  have P5 : Hid (PC w wc #[.int .i64 LP, .int .i64 VR, .int .i64 MD, .int .i64 x1, .int .i64 (sg x2), .int .i64 (sg x3), .int .i64 0, .int .i64 0, .int .u32 0, .int .u64 0, .int .u64 0, .int .u64 0, .int .u64 0, .slice none 0 0, .int .i64 0, .bool false, .slice none 0 0]) := hP
  clear hh6 hvm hP hD6 hD7
  have t1 : wc.cell? ⟨w.heap.size + 2, 1, none⟩ = some (.int .i64 VR) := P5.out.c.cell 1
  have t2 : wc.cell? ⟨w.heap.size + 2, 2, none⟩ = some (.int .i64 MD) := P5.out.c.cell 2
  rw [show rdFields Try.f18 = seqTo3 9 (rdFields Try.f18) (rdLoop Try.f18) by kernel_rfl]
  obtain ⟨CL, hCL⟩ : ∃ c, c = rdLoop Try.f18 := ⟨_, rfl⟩
  rw [← hCL]
  have HCL : Hid (CL = rdLoop Try.f18) := hCL
  clear hCL
  refine post_hid3 fun QB hQB => ?_
  unfold rdFields Try.f18
  simp only [dropSeq3, seqTo3, Option.getD_some]
  cases hC1 : wiB VR 1 4
  · have HE : Hid (dcE bs = 32) := dcE_vm HLE.out.1 HLE.out.2 (by rw [HVM.out, hC1]; rfl)
    go_wp2_with (first | (go_at_call 41; refine (rwithin_any _ _ _ _).mono ?_; rintro e' w9 ⟨rfl, hw9⟩; rw [hw9]; clear hw9) | (refine step_pk (by rfl) _ (by rfl) (w.heap.size + 1) (by rfl) #[.int .i64 0, .int .i64 0, .int .i64 0, .int .i64 0, .int .i64 0, .int .i64 0, .int .i64 0, .int .i64 0, .int .u32 0, .int .u64 0, .int .u64 0, .int .u64 0, .int .u64 0, .slice none 0 0, .int .i64 0, .bool false, .slice none 0 0] (by rfl) ?_ ?_; exact P5.out.z1) | (refine step_spk (by rfl) _ _ (by rfl) w.heap.size #[.int .i64 0, .int .i64 0, .int .i64 0, .int .i64 0, .int .i64 0, .int .i64 0, .int .i64 0, .int .i64 0, .int .u32 0, .int .u64 0, .int .u64 0, .int .u64 0, .int .u64 0, .slice none 0 0, .int .i64 0, .bool false, .slice none 0 0] (by rfl) (by rfl) #[.int .i64 0, .int .i64 0, .int .i64 0, .int .i64 0, .int .i64 0, .int .i64 0, .int .i64 0, .int .i64 0, .int .u32 0, .int .u64 0, .int .u64 0, .int .u64 0, .int .u64 0, .slice none 0 0, .int .i64 0, .bool false, .slice none 0 0] ?_ (by rfl) (by rfl) (by kernel_rfl) ?_; exact P5.out.z0))
    rw [hQB.out]
    exact bodyPost_ret (v := .tuple #[.agg #[.int .i64 0, .int .i64 0, .int .i64 0, .int .i64 0, .int .i64 0, .int .i64 0, .int .i64 0, .int .i64 0, .int .u32 0, .int .u64 0, .int .u64 0, .int .u64 0, .int .u64 0, .slice none 0 0, .int .i64 0, .bool false, .slice none 0 0], .int .i64 32]) (res_pk2 Try.results18 _ _ w.heap.size _ _ (by rfl) (by rfl) (Bk.row P5.out.z0) (by rfl)) rfl (DcR.err HE.out (by decide) (Bk.below_row P5.out.bl P5.out.z0.lt))

  cases hC2 : wiB MD 1 5
  · have HE : Hid (dcE bs = 32) := dcE_vm HLE.out.1 HLE.out.2 (by rw [HVM.out, hC1, hC2]; rfl)
    go_wp2_with (first | (go_at_call 41; refine (rwithin_any _ _ _ _).mono ?_; rintro e' w9 ⟨rfl, hw9⟩; rw [hw9]; clear hw9) | (refine step_pk (by rfl) _ (by rfl) (w.heap.size + 1) (by rfl) #[.int .i64 0, .int .i64 0, .int .i64 0, .int .i64 0, .int .i64 0, .int .i64 0, .int .i64 0, .int .i64 0, .int .u32 0, .int .u64 0, .int .u64 0, .int .u64 0, .int .u64 0, .slice none 0 0, .int .i64 0, .bool false, .slice none 0 0] (by rfl) ?_ ?_; exact P5.out.z1) | (refine step_spk (by rfl) _ _ (by rfl) w.heap.size #[.int .i64 0, .int .i64 0, .int .i64 0, .int .i64 0, .int .i64 0, .int .i64 0, .int .i64 0, .int .i64 0, .int .u32 0, .int .u64 0, .int .u64 0, .int .u64 0, .int .u64 0, .slice none 0 0, .int .i64 0, .bool false, .slice none 0 0] (by rfl) (by rfl) #[.int .i64 0, .int .i64 0, .int .i64 0, .int .i64 0, .int .i64 0, .int .i64 0, .int .i64 0, .int .i64 0, .int .u32 0, .int .u64 0, .int .u64 0, .int .u64 0, .int .u64 0, .slice none 0 0, .int .i64 0, .bool false, .slice none 0 0] ?_ (by rfl) (by rfl) (by kernel_rfl) ?_; exact P5.out.z0))
    rw [hQB.out]
    exact bodyPost_ret (v := .tuple #[.agg #[.int .i64 0, .int .i64 0, .int .i64 0, .int .i64 0, .int .i64 0, .int .i64 0, .int .i64 0, .int .i64 0, .int .u32 0, .int .u64 0, .int .u64 0, .int .u64 0, .int .u64 0, .slice none 0 0, .int .i64 0, .bool false, .slice none 0 0], .int .i64 32]) (res_pk2 Try.results18 _ _ w.heap.size _ _ (by rfl) (by rfl) (Bk.row P5.out.z0) (by rfl)) rfl (DcR.err HE.out (by decide) (Bk.below_row P5.out.bl P5.out.z0.lt))

  have HV : Hid (vmB bs = true) := by show _ = _; rw [HVM.out, hC1, hC2]; rfl
  go_wp2_with (go_at_call 41; refine (rwithin_any _ _ _ _).mono ?_; rintro e' w9 ⟨rfl, hw9⟩; rw [hw9]; clear hw9)
  clear t1 t2 hC1 hC2 HVM
  refine (HG6.out _ P5.out.bl).mono ?_
  rintro e' W6 ⟨rfl, hW⟩
  have P6 : Hid (PC w W6 #[.int .i64 LP, .int .i64 VR, .int .i64 MD, .int .i64 x1, .int .i64 (sg x2), .int .i64 (sg x3), .int .i64 0, .int .i64 0, .int .u32 0, .int .u64 0, .int .u64 0, .int .u64 0, .int .u64 0, .slice none 0 0, .int .i64 0, .bool false, .slice none 0 0]) := by rw [hW]; exact P5.out
  clear hW P5
  have u6 := P6.out.c.cell 6
  have uf6 := P6.out.c.frozen 6
  simp only [List.getElem?_toArray, List.getElem?_cons_zero, List.getElem?_cons_succ] at u6
  go_wp2_with fail
  refine (HF6.out _).mono ?_
  rintro e' w9 ⟨rfl, hw9⟩
  rw [hw9]
  clear hw9
  go_wp2_with fail
  refine (HG7.out _ (P6.out.set 6 _).bl).mono ?_
  rintro e' W7 ⟨rfl, hW⟩
  have P7 : Hid (PC w W7 #[.int .i64 LP, .int .i64 VR, .int .i64 MD, .int .i64 x1, .int .i64 (sg x2), .int .i64 (sg x3), .int .i64 D6, .int .i64 0, .int .u32 0, .int .u64 0, .int .u64 0, .int .u64 0, .int .u64 0, .slice none 0 0, .int .i64 0, .bool false, .slice none 0 0]) := by rw [hW]; exact (P6.out.set 6 _)
  clear hW P6 u6 uf6
  have u7 := P7.out.c.cell 7
  have uf7 := P7.out.c.frozen 7
  simp only [List.getElem?_toArray, List.getElem?_cons_zero, List.getElem?_cons_succ] at u7
  go_wp2_with fail
  refine (HF7.out _).mono ?_
  rintro e' w9 ⟨rfl, hw9⟩
  rw [hw9]
  clear hw9
  go_wp2_with fail
  refine (HG8.out _ (P7.out.set 7 _).bl).mono ?_
  rintro e' W8 ⟨rfl, hW⟩
  have P8 : Hid (PC w W8 #[.int .i64 LP, .int .i64 VR, .int .i64 MD, .int .i64 x1, .int .i64 (sg x2), .int .i64 (sg x3), .int .i64 D6, .int .i64 D7, .int .u32 0, .int .u64 0, .int .u64 0, .int .u64 0, .int .u64 0, .slice none 0 0, .int .i64 0, .bool false, .slice none 0 0]) := by rw [hW]; exact (P7.out.set 7 _)
  clear hW P7 u7 uf7
  have u8 := P8.out.c.cell 8
  have uf8 := P8.out.c.frozen 8
  simp only [List.getElem?_toArray, List.getElem?_cons_zero, List.getElem?_cons_succ] at u8
  go_wp2_with fail
  refine (HG9.out _ (P8.out.set 8 _).bl).mono ?_
  rintro e' W9 ⟨rfl, hW⟩
  have P9 : Hid (PC w W9 #[.int .i64 LP, .int .i64 VR, .int .i64 MD, .int .i64 x1, .int .i64 (sg x2), .int .i64 (sg x3), .int .i64 D6, .int .i64 D7, .int .u32 y8, .int .u64 0, .int .u64 0, .int .u64 0, .int .u64 0, .slice none 0 0, .int .i64 0, .bool false, .slice none 0 0]) := by rw [hW]; exact (P8.out.set 8 _)
  clear hW P8 u8 uf8
  have u9 := P9.out.c.cell 9
  have uf9 := P9.out.c.frozen 9
  simp only [List.getElem?_toArray, List.getElem?_cons_zero, List.getElem?_cons_succ] at u9
  go_wp2_with fail
  refine (HG10.out _ (P9.out.set 9 _).bl).mono ?_
  rintro e' W10 ⟨rfl, hW⟩
  have P10 : Hid (PC w W10 #[.int .i64 LP, .int .i64 VR, .int .i64 MD, .int .i64 x1, .int .i64 (sg x2), .int .i64 (sg x3), .int .i64 D6, .int .i64 D7, .int .u32 y8, .int .u64 y9, .int .u64 0, .int .u64 0, .int .u64 0, .slice none 0 0, .int .i64 0, .bool false, .slice none 0 0]) := by rw [hW]; exact (P9.out.set 9 _)
  clear hW P9 u9 uf9
  have u10 := P10.out.c.cell 10
  have uf10 := P10.out.c.frozen 10
  simp only [List.getElem?_toArray, List.getElem?_cons_zero, List.getElem?_cons_succ] at u10
  go_wp2_with fail
  refine (HG11.out _ (P10.out.set 10 _).bl).mono ?_
  rintro e' W11 ⟨rfl, hW⟩
  have P11 : Hid (PC w W11 #[.int .i64 LP, .int .i64 VR, .int .i64 MD, .int .i64 x1, .int .i64 (sg x2), .int .i64 (sg x3), .int .i64 D6, .int .i64 D7, .int .u32 y8, .int .u64 y9, .int .u64 y10, .int .u64 0, .int .u64 0, .slice none 0 0, .int .i64 0, .bool false, .slice none 0 0]) := by rw [hW]; exact (P10.out.set 10 _)
  clear hW P10 u10 uf10
  have u11 := P11.out.c.cell 11
  have uf11 := P11.out.c.frozen 11
  simp only [List.getElem?_toArray, List.getElem?_cons_zero, List.getElem?_cons_succ] at u11
  go_wp2_with fail
  refine (HG12.out _ (P11.out.set 11 _).bl).mono ?_
  rintro e' W12 ⟨rfl, hW⟩
  have P12 : Hid (PC w W12 #[.int .i64 LP, .int .i64 VR, .int .i64 MD, .int .i64 x1, .int .i64 (sg x2), .int .i64 (sg x3), .int .i64 D6, .int .i64 D7, .int .u32 y8, .int .u64 y9, .int .u64 y10, .int .u64 y11, .int .u64 0, .slice none 0 0, .int .i64 0, .bool false, .slice none 0 0]) := by rw [hW]; exact (P11.out.set 11 _)
  clear hW P11 u11 uf11
  have u12 := P12.out.c.cell 12
  have uf12 := P12.out.c.frozen 12
  simp only [List.getElem?_toArray, List.getElem?_cons_zero, List.getElem?_cons_succ] at u12
  go_wp2_with fail
  have P13 : Hid (PC w (W12.setCell ⟨w.heap.size + 2, 12, none⟩ (.int .u64 y12)) #[.int .i64 LP, .int .i64 VR, .int .i64 MD, .int .i64 x1, .int .i64 (sg x2), .int .i64 (sg x3), .int .i64 D6, .int .i64 D7, .int .u32 y8, .int .u64 y9, .int .u64 y10, .int .u64 y11, .int .u64 y12, .slice none 0 0, .int .i64 0, .bool false, .slice none 0 0]) := P12.out.set 12 _
  clear P12 u12 uf12
  rw [HCL.out, hQB.out]
  exact rd_loop bs w HLE.out.1 HLE.out.2 LP VR MD x1 x2 x3 D6 D7 y8 y9 y10 y11 y12 HH.out HV.out a13 n13 c13 _ HQ.out P13.out _ _ _ _ _ _ _ _ _ _ _ _ _ _ _ _ _ _ _ _ _ _ _ _ _ _ _ _ _ _ _ _ _ _ _ _ _ _ _ _ _ _ _ _ _ _ _ _ _ _ _ _ _ _ _ _ _ _ _ _ _ _ _ _ _ _ _ _ _ _ _ _ _ _ _ _ _ _ _ _ _ _ _ _ _ _ _ _ _ _ _ _ _ _ _ _ _ _ _ _ _ _ _ _ _ _ _ _ _ _ _ _ _ _ _ _ _ _ _ _ _ _ _ _ _ _ _ _ _ _ _ _ _ _ _ _ _ _ _ _ _ _ _ _ _ _ _ _ _ _ _ _ _ _ _ _
end Go.Proofs.Ytdobghhjlfffpaa
/- What the reference's Decode returns. -/
namespace Go.Proofs.Ytdobghhjlfffpaa
open Go.RowKit
set_option maxRecDepth 40000 in
set_option maxHeartbeats 8000000 in
theorem rdecode_L (v : Value) (bs : List Int) (w : World) (h : Sv w.heap.size w v bs) (hl : 512 < bs.length ∨ bs.length < 48) :
    Calls Try.prog 18 #[v] w fun e' w' => DcR bs w e' w' := by
  obtain ⟨ao, cap, rfl, hc, hcn, hrs, hok⟩ := h
  obtain ⟨L, hL⟩ : ∃ L, L = bs.length := ⟨_, rfl⟩
  rw [← hL]
  have HL : Hid (L = bs.length) := hL
  clear hc hcn hrs hok
  rcases hl with hl | hl
  · have hE : Hid (dcE bs = 31) := by show _ = _; unfold dcE; rw [if_pos hl]
    have l5 : (512 : Int) < L := by omega
    clear hl hL
    go_enter Try.func18, Try.ntmps18
    go_wp2_with (first | (refine step_spk (by rfl) _ _ (by rfl) (w.heap.size + 1) #[.int .i64 0, .int .i64 0, .int .i64 0, .int .i64 0, .int .i64 0, .int .i64 0, .int .i64 0, .int .i64 0, .int .u32 0, .int .u64 0, .int .u64 0, .int .u64 0, .int .u64 0, .slice none 0 0, .int .i64 0, .bool false, .slice none 0 0] (by rfl) (by rfl) #[.int .i64 0, .int .i64 0, .int .i64 0, .int .i64 0, .int .i64 0, .int .i64 0, .int .i64 0, .int .i64 0, .int .u32 0, .int .u64 0, .int .u64 0, .int .u64 0, .int .u64 0, .slice none 0 0, .int .i64 0, .bool false, .slice none 0 0] ?_ (by rfl) (by rfl) (by kernel_rfl) ?_; exact zz1 w) | (refine step_pk (by rfl) _ (by rfl) (w.heap.size + 1) (by rfl) #[.int .i64 0, .int .i64 0, .int .i64 0, .int .i64 0, .int .i64 0, .int .i64 0, .int .i64 0, .int .i64 0, .int .u32 0, .int .u64 0, .int .u64 0, .int .u64 0, .int .u64 0, .slice none 0 0, .int .i64 0, .bool false, .slice none 0 0] (by rfl) ?_ ?_; exact (zy1 w)) | (refine step_spk (by rfl) _ _ (by rfl) w.heap.size #[.int .i64 0, .int .i64 0, .int .i64 0, .int .i64 0, .int .i64 0, .int .i64 0, .int .i64 0, .int .i64 0, .int .u32 0, .int .u64 0, .int .u64 0, .int .u64 0, .int .u64 0, .slice none 0 0, .int .i64 0, .bool false, .slice none 0 0] (by rfl) (by rfl) #[.int .i64 0, .int .i64 0, .int .i64 0, .int .i64 0, .int .i64 0, .int .i64 0, .int .i64 0, .int .i64 0, .int .u32 0, .int .u64 0, .int .u64 0, .int .u64 0, .int .u64 0, .slice none 0 0, .int .i64 0, .bool false, .slice none 0 0] ?_ (by rfl) (by rfl) (by kernel_rfl) ?_; exact (zy0 w)))
    exact bodyPost_ret (v := .tuple #[.agg #[.int .i64 0, .int .i64 0, .int .i64 0, .int .i64 0, .int .i64 0, .int .i64 0, .int .i64 0, .int .i64 0, .int .u32 0, .int .u64 0, .int .u64 0, .int .u64 0, .int .u64 0, .slice none 0 0, .int .i64 0, .bool false, .slice none 0 0], .int .i64 31]) (res_pk2 Try.results18 _ _ w.heap.size _ _ (by rfl) (by rfl) (Bk.row (zy0 w)) (by rfl)) rfl (DcR.err hE.out (by decide) (Bk.below_row (zyb w) (zy0 w).lt))

  · have hE : Hid (dcE bs = 30) := by show _ = _; unfold dcE; rw [if_neg (by omega), if_pos hl]
    have l5 : (L : Int) < 48 := by omega
    clear hl hL
    go_enter Try.func18, Try.ntmps18
    go_wp2_with (first | (refine step_spk (by rfl) _ _ (by rfl) (w.heap.size + 1) #[.int .i64 0, .int .i64 0, .int .i64 0, .int .i64 0, .int .i64 0, .int .i64 0, .int .i64 0, .int .i64 0, .int .u32 0, .int .u64 0, .int .u64 0, .int .u64 0, .int .u64 0, .slice none 0 0, .int .i64 0, .bool false, .slice none 0 0] (by rfl) (by rfl) #[.int .i64 0, .int .i64 0, .int .i64 0, .int .i64 0, .int .i64 0, .int .i64 0, .int .i64 0, .int .i64 0, .int .u32 0, .int .u64 0, .int .u64 0, .int .u64 0, .int .u64 0, .slice none 0 0, .int .i64 0, .bool false, .slice none 0 0] ?_ (by rfl) (by rfl) (by kernel_rfl) ?_; exact zz1 w) | (refine step_pk (by rfl) _ (by rfl) (w.heap.size + 1) (by rfl) #[.int .i64 0, .int .i64 0, .int .i64 0, .int .i64 0, .int .i64 0, .int .i64 0, .int .i64 0, .int .i64 0, .int .u32 0, .int .u64 0, .int .u64 0, .int .u64 0, .int .u64 0, .slice none 0 0, .int .i64 0, .bool false, .slice none 0 0] (by rfl) ?_ ?_; exact (zy1 w)) | (refine step_spk (by rfl) _ _ (by rfl) w.heap.size #[.int .i64 0, .int .i64 0, .int .i64 0, .int .i64 0, .int .i64 0, .int .i64 0, .int .i64 0, .int .i64 0, .int .u32 0, .int .u64 0, .int .u64 0, .int .u64 0, .int .u64 0, .slice none 0 0, .int .i64 0, .bool false, .slice none 0 0] (by rfl) (by rfl) #[.int .i64 0, .int .i64 0, .int .i64 0, .int .i64 0, .int .i64 0, .int .i64 0, .int .i64 0, .int .i64 0, .int .u32 0, .int .u64 0, .int .u64 0, .int .u64 0, .int .u64 0, .slice none 0 0, .int .i64 0, .bool false, .slice none 0 0] ?_ (by rfl) (by rfl) (by kernel_rfl) ?_; exact (zy0 w)))
    exact bodyPost_ret (v := .tuple #[.agg #[.int .i64 0, .int .i64 0, .int .i64 0, .int .i64 0, .int .i64 0, .int .i64 0, .int .i64 0, .int .i64 0, .int .u32 0, .int .u64 0, .int .u64 0, .int .u64 0, .int .u64 0, .slice none 0 0, .int .i64 0, .bool false, .slice none 0 0], .int .i64 30]) (res_pk2 Try.results18 _ _ w.heap.size _ _ (by rfl) (by rfl) (Bk.row (zy0 w)) (by rfl)) rfl (DcR.err hE.out (by decide) (Bk.below_row (zyb w) (zy0 w).lt))

end Go.Proofs.Ytdobghhjlfffpaa
/- What the reference's Decode returns. -/
namespace Go.Proofs.Ytdobghhjlfffpaa
open Go.RowKit
set_option linter.unusedVariables false
set_option maxRecDepth 40000 in
set_option maxHeartbeats 8000000 in
theorem rdecode_M (ao : Option Addr) (L cap : Nat) (bs : List Int) (w : World) (h : Sv w.heap.size w (.slice ao L cap) bs) (h48 : 48 ≤ bs.length) (h512 : bs.length ≤ 512) :
    Calls Try.prog 18 #[.slice ao L cap] w fun e' w' => DcR bs w e' w' := by
  have H : Hid (Sv w.heap.size w (.slice ao L cap) bs) := h
  obtain ⟨ao', cap', hv, hc, hcn, hrs, hok⟩ := h
  injection hv with p1 p2 p3
  subst p1 p3
  have hL : L = bs.length := p2
  clear p2
  have HLE : Hid (48 ≤ bs.length ∧ bs.length ≤ 512) := ⟨h48, h512⟩
  have l48 : (48 : Int) ≤ L := by omega
  have l512 : (L : Int) ≤ 512 := by omega
  have hcL : (L : Int) ≤ cap := by omega
  have HB : Hid (okb bs ∧ Rs w.heap.size w ao bs) := ⟨hok, hrs⟩
  have HLL : Hid (L = bs.length) := hL
  clear hc hcn hrs hok hL h48 h512
  obtain ⟨ad0, g0, b0⟩ := HB.out.2.at 0 (by have := HLE.out; omega)
  have hix0 : ∀ w, Sem.run Try.prog (Instr.indexAt 27 (.slice ao L cap) (.int .i64 0)) w = .ok (.pointer (some (ad0.add 0))) w := idx_run L cap 0 g0.out (by omega)
  obtain ⟨a0, ha0⟩ : ∃ a, a = ad0.add 0 := ⟨_, rfl⟩
  rw [← ha0] at b0 hix0
  have hlt0 : a0.block < w.heap.size := World.block_lt_of_cell? w _ b0
  obtain ⟨x0, hx0⟩ : ∃ x, x = bs.getD 0 0 := ⟨_, rfl⟩
  obtain ⟨x00, x01⟩ := okb_at HB.out.1 0
  rw [← hx0] at b0 x00 x01
  have HX0 : Hid (x0 = fv bs 0 1) := by show _ = _; rw [hx0, fv1 bs 0 (by have := HLE.out; omega)]
  clear ha0 hx0 g0
  obtain ⟨ad1, g1, b1⟩ := HB.out.2.at 1 (by have := HLE.out; omega)
  have hix1 : ∀ w, Sem.run Try.prog (Instr.indexAt 27 (.slice ao L cap) (.int .i64 1)) w = .ok (.pointer (some (ad1.add 1))) w := idx_run L cap 1 g1.out (by omega)
  obtain ⟨a1, ha1⟩ : ∃ a, a = ad1.add 1 := ⟨_, rfl⟩
  rw [← ha1] at b1 hix1
  have hlt1 : a1.block < w.heap.size := World.block_lt_of_cell? w _ b1
  obtain ⟨x1, hx1⟩ : ∃ x, x = bs.getD 1 0 := ⟨_, rfl⟩
  obtain ⟨x10, x11⟩ := okb_at HB.out.1 1
  rw [← hx1] at b1 x10 x11
  have HX1 : Hid (x1 = fv bs 1 1) := by show _ = _; rw [hx1, fv1 bs 1 (by have := HLE.out; omega)]
  clear ha1 hx1 g1
  obtain ⟨ad2, g2, b2⟩ := HB.out.2.at 2 (by have := HLE.out; omega)
  have hix2 : ∀ w, Sem.run Try.prog (Instr.indexAt 27 (.slice ao L cap) (.int .i64 2)) w = .ok (.pointer (some (ad2.add 2))) w := idx_run L cap 2 g2.out (by omega)
  obtain ⟨a2, ha2⟩ : ∃ a, a = ad2.add 2 := ⟨_, rfl⟩
  rw [← ha2] at b2 hix2
  have hlt2 : a2.block < w.heap.size := World.block_lt_of_cell? w _ b2
  obtain ⟨x2, hx2⟩ : ∃ x, x = bs.getD 2 0 := ⟨_, rfl⟩
  obtain ⟨x20, x21⟩ := okb_at HB.out.1 2
  rw [← hx2] at b2 x20 x21
  have HX2 : Hid (x2 = fv bs 2 1) := by show _ = _; rw [hx2, fv1 bs 2 (by have := HLE.out; omega)]
  clear ha2 hx2 g2
  obtain ⟨ad3, g3, b3⟩ := HB.out.2.at 3 (by have := HLE.out; omega)
  have hix3 : ∀ w, Sem.run Try.prog (Instr.indexAt 27 (.slice ao L cap) (.int .i64 3)) w = .ok (.pointer (some (ad3.add 3))) w := idx_run L cap 3 g3.out (by omega)
  obtain ⟨a3, ha3⟩ : ∃ a, a = ad3.add 3 := ⟨_, rfl⟩
  rw [← ha3] at b3 hix3
  have hlt3 : a3.block < w.heap.size := World.block_lt_of_cell? w _ b3
  obtain ⟨x3, hx3⟩ : ∃ x, x = bs.getD 3 0 := ⟨_, rfl⟩
  obtain ⟨x30, x31⟩ := okb_at HB.out.1 3
  rw [← hx3] at b3 x30 x31
  have HX3 : Hid (x3 = fv bs 3 1) := by show _ = _; rw [hx3, fv1 bs 3 (by have := HLE.out; omega)]
  clear ha3 hx3 g3
  obtain ⟨LP, hLP⟩ : ∃ A, A = x0 / 64 := ⟨_, rfl⟩
  obtain ⟨V8, hV8⟩ : ∃ A, A = x0 / 8 := ⟨_, rfl⟩
  obtain ⟨VR, hVR⟩ : ∃ A, A = x0 / 8 % 8 := ⟨_, rfl⟩
  obtain ⟨MD, hMD⟩ : ∃ A, A = x0 % 8 := ⟨_, rfl⟩
  have e1 : IntKind.u8.wrap (x0.tdiv 64) = LP := by rw [Int.tdiv_eq_ediv_of_nonneg x00, hLP, IntKind.wrap_u8]; omega
  have e2 : IntKind.u8.wrap (x0.tdiv 8) = V8 := by rw [Int.tdiv_eq_ediv_of_nonneg x00, hV8, IntKind.wrap_u8]; omega
  have e3 : V8.tmod 8 = VR := by rw [hV8, hVR, Int.tmod_eq_emod_of_nonneg (by omega)]
  have e4 : x0.tmod 8 = MD := by rw [Int.tmod_eq_emod_of_nonneg x00, hMD]
  have w1 : IntKind.i64.wrap LP = LP := by rw [IntKind.wrap_i64]; omega
  have w2 : IntKind.i64.wrap VR = VR := by rw [IntKind.wrap_i64]; omega
  have w3 : IntKind.i64.wrap MD = MD := by rw [IntKind.wrap_i64]; omega
  have w4 : IntKind.i64.wrap x1 = x1 := by rw [IntKind.wrap_i64]; omega
  have HH : Hid (hdD bs = ⟨LP, VR, MD, x1, sg x2, sg x3, fv bs 4 4 * 65536, fv bs 8 4 * 65536, fv bs 12 4, fv bs 16 8, fv bs 24 8, fv bs 32 8, fv bs 40 8⟩) := by
    show _ = _
    unfold hdD
    rw [← HX0.out, ← HX1.out, ← HX2.out, ← HX3.out, ← hLP, ← hVR, ← hMD]
  have HVM : Hid (vmB bs = (wiB VR 1 4 && wiB MD 1 5)) := by
    show _ = _
    unfold vmB
    rw [← HX0.out, ← hVR, ← hMD]
  clear hLP hV8 hVR hMD
  obtain ⟨W0, hW0⟩ : ∃ W, W = ((w.alloc (.cells #[.int .i64 0, .int .i64 0, .int .i64 0, .int .i64 0, .int .i64 0, .int .i64 0, .int .i64 0, .int .i64 0, .int .u32 0, .int .u64 0, .int .u64 0, .int .u64 0, .int .u64 0, .slice none 0 0, .int .i64 0, .bool false, .slice none 0 0] 29)).alloc (.cells #[.int .i64 0, .int .i64 0, .int .i64 0, .int .i64 0, .int .i64 0, .int .i64 0, .int .i64 0, .int .i64 0, .int .u32 0, .int .u64 0, .int .u64 0, .int .u64 0, .int .u64 0, .slice none 0 0, .int .i64 0, .bool false, .slice none 0 0] 29)).setRow (w.heap.size + 1) #[.int .i64 0, .int .i64 0, .int .i64 0, .int .i64 0, .int .i64 0, .int .i64 0, .int .i64 0, .int .i64 0, .int .u32 0, .int .u64 0, .int .u64 0, .int .u64 0, .int .u64 0, .slice none 0 0, .int .i64 0, .bool false, .slice none 0 0] := ⟨_, rfl⟩
  have Z0 : Hid (Bk w.heap.size W0 #[.int .i64 0, .int .i64 0, .int .i64 0, .int .i64 0, .int .i64 0, .int .i64 0, .int .i64 0, .int .i64 0, .int .u32 0, .int .u64 0, .int .u64 0, .int .u64 0, .int .u64 0, .slice none 0 0, .int .i64 0, .bool false, .slice none 0 0] 29 ∧ Bk (w.heap.size + 1) W0 #[.int .i64 0, .int .i64 0, .int .i64 0, .int .i64 0, .int .i64 0, .int .i64 0, .int .i64 0, .int .i64 0, .int .u32 0, .int .u64 0, .int .u64 0, .int .u64 0, .int .u64 0, .slice none 0 0, .int .i64 0, .bool false, .slice none 0 0] 29 ∧ Below w.heap.size w W0) := by rw [hW0]; exact ⟨zy0 w, zy1 w, zyb w⟩
  have sz0 : W0.heap.size = w.heap.size + 2 := by rw [hW0]; simp [World.setRow]
  have c0 : W0.cell? a0 = some (.int .u8 x0) := by rw [Z0.out.2.2.cell hlt0]; exact b0
  have c1 : W0.cell? a1 = some (.int .u8 x1) := by rw [Z0.out.2.2.cell hlt1]; exact b1
  have c2 : W0.cell? a2 = some (.int .u8 x2) := by rw [Z0.out.2.2.cell hlt2]; exact b2
  have c3 : W0.cell? a3 = some (.int .u8 x3) := by rw [Z0.out.2.2.cell hlt3]; exact b3
  have hbody : (Try.f18).body = some (seqTo3 5 ((Try.f18).body.getD .skip) (rdFields Try.f18)) := by kernel_rfl
  obtain ⟨CL, hCL⟩ : ∃ c, c = rdFields Try.f18 := ⟨_, rfl⟩
  have HCL : Hid (CL = rdFields Try.f18) := hCL
  rw [← hCL] at hbody
  clear hCL
  refine calls_of_wp Try.func18 hbody ?_
  clear hbody
  simp only [Try.ntmps18, List.size_toArray, List.length_cons, List.length_nil, Nat.reduceAdd, Nat.reduceSub, Array.replicate_succ, Array.replicate_zero, List.push_toArray, List.append_toArray, List.nil_append, List.cons_append]
  refine post_hid3 fun QB hQB => ?_
  unfold Try.f18
  simp only [seqTo3, Option.getD_some]
  go_wp2_with (refine step_spk (by rfl) _ _ (by rfl) (w.heap.size + 1) #[.int .i64 0, .int .i64 0, .int .i64 0, .int .i64 0, .int .i64 0, .int .i64 0, .int .i64 0, .int .i64 0, .int .u32 0, .int .u64 0, .int .u64 0, .int .u64 0, .int .u64 0, .slice none 0 0, .int .i64 0, .bool false, .slice none 0 0] (by rfl) (by rfl) #[.int .i64 0, .int .i64 0, .int .i64 0, .int .i64 0, .int .i64 0, .int .i64 0, .int .i64 0, .int .i64 0, .int .u32 0, .int .u64 0, .int .u64 0, .int .u64 0, .int .u64 0, .slice none 0 0, .int .i64 0, .bool false, .slice none 0 0] ?_ (by rfl) (by rfl) (by kernel_rfl) ?_; exact zz1 w)
  rw [← hW0]
  clear hW0
  have n0 := World.new_ne W0 a0 c0
  have n1 := World.new_ne W0 a1 c1
  have n2 := World.new_ne W0 a2 c2
  have n3 := World.new_ne W0 a3 c3
  go_cut [5] from 19 to 47 (fun p wx => p = .pointer (some ⟨w.heap.size + 2, 0, none⟩) ∧ Hid (PC w wx #[.int .i64 LP, .int .i64 VR, .int .i64 MD, .int .i64 x1, .int .i64 (sg x2), .int .i64 (sg x3), .int .i64 0, .int .i64 0, .int .u32 0, .int .u64 0, .int .u64 0, .int .u64 0, .int .u64 0, .slice none 0 0, .int .i64 0, .bool false, .slice none 0 0]))
  case first =>
    go_region_held3 (fun w' => w'.cell? a0 = some (.int .u8 x0) ∧ w'.cell? a1 = some (.int .u8 x1) ∧ w'.cell? a2 = some (.int .u8 x2) ∧ w'.cell? a3 = some (.int .u8 x3)) (first | exact ⟨c0, c1, c2, c3⟩ | go_keep) ((go_at_call 40; refine (rsigned_any _ _ (by assumption) (by assumption)).mono ?_; rintro e' w9 ⟨rfl, hw9⟩; rw [hw9]; clear hw9))
    all_goals
      go_wp2_with fail
      go_meet
      case rel =>
        refine ⟨rfl, Z0.out.1.alloc _, Z0.out.2.1.alloc _, ?_, (Z0.out.2.2.alloc (by omega) _).drew⟩
        have := Bk.new W0 #[.int .i64 LP, .int .i64 VR, .int .i64 MD, .int .i64 x1, .int .i64 (sg x2), .int .i64 (sg x3), .int .i64 0, .int .i64 0, .int .u32 0, .int .u64 0, .int .u64 0, .int .u64 0, .int .u64 0, .slice none 0 0, .int .i64 0, .bool false, .slice none 0 0] 29
        rw [sz0] at this
        exact this
  case rest =>
    obtain ⟨rfl, P5⟩ := hcut
    refine (‹∀ (a : Act) (w : World), Code.wp Try.prog CL QB a w → _› _ _ ?_)
    rw [HCL.out, hQB.out]
    exact rd_fields ao L cap bs w wc H.out HLE.out.1 HLE.out.2 LP VR MD x1 x2 x3 HH.out HVM.out P5.out _ _ _ _ _ _ _ _ _ _ _ _ _ _ _ _ _ _ _ _ _ _ _ _ _ _ _ _ _ _ _ _ _ _ _ _ _ _ _ _ _ _ _ _ _ _ _ _ _ _ _ _ _ _ _ _ _ _ _ _ _ _ _ _ _ _ _ _ _ _ _ _ _ _ _ _ _ _ _ _ _ _ _ _ _ _ _ _ _ _ _ _ _ _ _ _ _ _ _ _ _ _ _ _ _ _ _ _ _ _ _ _ _ _ _ _ _ _ _ _ _ _ _ _ _ _ _ _ _ _ _ _ _ _ _ _ _ _ _ _ _ _ _ _ _ _ _ _ _ _ _ _ _ _ _ _
theorem rdecode_any (v : Value) (bs : List Int) (w : World) (h : Sv w.heap.size w v bs) :
    Calls Try.prog 18 #[v] w fun e' w' => DcR bs w e' w' := by
  by_cases hl : 512 < bs.length ∨ bs.length < 48
  · exact rdecode_L v bs w h hl
  · obtain ⟨ao, cap, rfl, hc⟩ := id h
    exact rdecode_M ao bs.length cap bs w h (by omega) (by omega)
end Go.Proofs.Ytdobghhjlfffpaa
/- Small facts on packets that were read. -/
namespace Go.Proofs.Ytdobghhjlfffpaa
open Go.RowKit
set_option linter.unusedVariables false
theorem Es.nil3 (N : Nat) (w : World) : Es N w (.slice none 0 0) [] := ⟨none, 0, rfl, Nat.le_refl _, fun _ => rfl, fun i hi => absurd hi (Nat.not_lt_zero i)⟩
theorem Sv.nil3 (N : Nat) (w : World) : Sv N w (.slice none 0 0) [] := ⟨none, 0, rfl, Nat.le_refl _, fun _ => rfl, fun i hi => absurd hi (Nat.not_lt_zero i), fun b hb => by cases hb⟩
theorem ox_slice {w : World} {B : Nat} {v : Value} {xs : List Xt} (h : OX w B v xs) : ∃ a n c, v = .slice a n c := by
  rcases h.row.2 with ⟨h1, _⟩ | ⟨g, cap, cur, h1, _⟩
  · exact ⟨_, _, _, h1⟩
  · exact ⟨_, _, _, h1⟩
end Go.Proofs.Ytdobghhjlfffpaa
/- The law WireOne. -/
namespace Go.Proofs.Ytdobghhjlfffpaa
open Go.RowKit
set_option linter.unusedVariables false
theorem decide_dec {f : Nat} {v : Value} {bs : List Int} {u : World} {E : Int} (hE0 : E = dcE bs) (hE : dcE bs ≠ 0) (h : Calls Try.prog f #[v] u fun e' w' => DcR bs u e' w') : Calls Try.prog f #[v] u fun e' w' => e' = .returned (.tuple #[.agg #[.int .i64 0, .int .i64 0, .int .i64 0, .int .i64 0, .int .i64 0, .int .i64 0, .int .i64 0, .int .i64 0, .int .u32 0, .int .u64 0, .int .u64 0, .int .u64 0, .int .u64 0, .slice none 0 0, .int .i64 0, .bool false, .slice none 0 0], .int .i64 E]) ∧ Below u.heap.size u w' := by
  refine h.mono ?_
  rintro e' w' ⟨h1, ev, xs, key, nak, mv, mac, rfl, hb, -, -, -, hz⟩
  obtain ⟨rfl, rfl, rfl, rfl, rfl, -, -⟩ := hz hE
  rw [hE0]
  exact ⟨rfl, hb⟩
theorem wi_mode {bs : List Int} (h : dcE bs = 0) {E : Int} (hE : DE bs E) : E = 32 := by
  obtain ⟨h48, h512, hv, -⟩ := dcE_ok h
  refine hE.2.2.1 (by omega) h512 (fun hc => ?_)
  have h6 := hc.1.2.1
  unfold vmB at hv
  rw [Bool.and_eq_true, wiB_iff, wiB_iff] at hv
  omega
set_option maxRecDepth 8000 in
set_option maxHeartbeats 4000000 in
theorem one_err (v : Value) (bs : List Int) (w : World) (h : Sv w.heap.size w v bs) (hl : bs.length ≤ 1048576) (hE : dcE bs ≠ 0) :
    Calls Try.prog 5 #[v] w fun e' w' => e' = .returned (.bool true) ∧ Below w.heap.size w w' := by
  have H : Hid (Sv w.heap.size w v bs) := h
  obtain ⟨ao, cap, rfl, -⟩ := h
  obtain ⟨E, hE0⟩ : ∃ E, E = dcE bs := ⟨_, rfl⟩
  obtain ⟨L, hL⟩ : ∃ L, L = bs.length := ⟨_, rfl⟩
  rw [← hL] at H ⊢
  have hLi : (L : Int) ≤ 1048576 := by omega
  have HD : Hid (∀ v, Below w.heap.size w v → w.heap.size ≤ v.heap.size → Calls Try.prog 17 #[.slice ao L cap] v fun e' w' => e' = .returned (.tuple #[.agg #[.int .i64 0, .int .i64 0, .int .i64 0, .int .i64 0, .int .i64 0, .int .i64 0, .int .i64 0, .int .i64 0, .int .u32 0, .int .u64 0, .int .u64 0, .int .u64 0, .int .u64 0, .slice none 0 0, .int .i64 0, .bool false, .slice none 0 0], .int .i64 E]) ∧ Below v.heap.size v w') := fun v hb hs => by
    refine (decide_dec hE0 hE (decode_any _ bs v (by omega) ((H.out.below hb (Nat.le_refl _)).mono hs)))
  have HR : Hid (∀ v, Below w.heap.size w v → w.heap.size ≤ v.heap.size → Calls Try.prog 18 #[.slice ao L cap] v fun e' w' => e' = .returned (.tuple #[.agg #[.int .i64 0, .int .i64 0, .int .i64 0, .int .i64 0, .int .i64 0, .int .i64 0, .int .i64 0, .int .i64 0, .int .u32 0, .int .u64 0, .int .u64 0, .int .u64 0, .int .u64 0, .slice none 0 0, .int .i64 0, .bool false, .slice none 0 0], .int .i64 E]) ∧ Below v.heap.size v w') := fun v hb hs => by
    refine (decide_dec hE0 hE (rdecode_any _ bs v ((H.out.below hb (Nat.le_refl _)).mono hs)))
  have HS : Hid (∀ v, Calls Try.prog 14 #[.agg #[.int .i64 0, .int .i64 0, .int .i64 0, .int .i64 0, .int .i64 0, .int .i64 0, .int .i64 0, .int .i64 0, .int .u32 0, .int .u64 0, .int .u64 0, .int .u64 0, .int .u64 0, .slice none 0 0, .int .i64 0, .bool false, .slice none 0 0], .agg #[.int .i64 0, .int .i64 0, .int .i64 0, .int .i64 0, .int .i64 0, .int .i64 0, .int .i64 0, .int .i64 0, .int .u32 0, .int .u64 0, .int .u64 0, .int .u64 0, .int .u64 0, .slice none 0 0, .int .i64 0, .bool false, .slice none 0 0]] v fun e w' => e = .returned (.bool true) ∧ Below v.heap.size v w') := fun v => lsame_any 0 ⟨0, 0, 0, 0, 0, 0, 0, 0, 0, 0, 0, 0, 0⟩ (.slice none 0 0) (.slice none 0 0) [] [] 0 false (.slice none 0 0) (.slice none 0 0) [] v (Es.nil3 0 v) (Es.nil3 0 v) (Sv.nil3 0 v) (Sv.nil3 0 v) rfl (Nat.zero_le _) (by simp)
  rw [← hE0] at hE
  have hb0 : (E != 0) = true := by rw [bne_iff_ne]; exact hE
  clear hL hE hE0 hl H
  go_enter Try.func5, Try.ntmps5
  go_wp2_with fail
  refine (HD.out _ (Below.refl _ _) (Nat.le_refl _)).mono ?_
  rintro e' w1 ⟨rfl, hb⟩
  have B1 : Hid (Below w.heap.size w w1) := hb
  have sz1 : w.heap.size ≤ w1.heap.size := hb.size
  clear hb
  go_wp2_with fail
  refine (HR.out _ (by repeat' (first | with_reducible exact Below.refl _ _ | with_reducible exact B1.out | with_reducible refine Below.setCell ?_ (by first | (simp; done) | (simp; omega) | omega) _ | with_reducible refine below_drewN ?_ _ | with_reducible refine Below.drew ?_ | with_reducible refine Below.alloc ?_ (by first | (simp; done) | (simp; omega) | omega) _)) (by have := B1.out.size; simp; omega)).mono ?_
  rintro e' w2 ⟨rfl, hb⟩
  have K2 : Hid (Pb w1.heap.size w2 #[.int .i64 0, .int .i64 0, .int .i64 0, .int .i64 0, .int .i64 0, .int .i64 0, .int .i64 0, .int .i64 0, .int .u32 0, .int .u64 0, .int .u64 0, .int .u64 0, .int .u64 0, .slice none 0 0, .int .i64 0, .bool false, .slice none 0 0]) := (Pb.new w1 _).below hb (by simp)
  have B2 : Hid (Below w.heap.size w w2) := Below.trans (by repeat' (first | with_reducible exact Below.refl _ _ | with_reducible exact B1.out | with_reducible refine Below.setCell ?_ (by first | (simp; done) | (simp; omega) | omega) _ | with_reducible refine below_drewN ?_ _ | with_reducible refine Below.drew ?_ | with_reducible refine Below.alloc ?_ (by first | (simp; done) | (simp; omega) | omega) _)) (hb.mono (by have := B1.out.size; simp; omega))
  clear hb
  have sz2 : w.heap.size ≤ w2.heap.size := B2.out.size
  go_wp2_with (refine step_pk (by rfl) _ (by rfl) _ (by rfl) _ (by rfl) (K2.out.below ((Below.refl w2.heap.size w2).alloc (Nat.le_refl _) _) K2.out.lt) ?_)
  refine (HS.out _).mono ?_
  rintro e' w3 ⟨rfl, hb⟩
  have B3 : Hid (Below w.heap.size w w3) := Below.trans (by repeat' (first | with_reducible exact Below.refl _ _ | with_reducible exact B2.out | with_reducible refine Below.setCell ?_ (by first | (simp; done) | (simp; omega) | omega) _ | with_reducible refine below_drewN ?_ _ | with_reducible refine Below.drew ?_ | with_reducible refine Below.alloc ?_ (by first | (simp; done) | (simp; omega) | omega) _)) (hb.mono (by have := B2.out.size; simp; omega))
  clear hb
  go_wp2_with fail
  go_ret
  exact ⟨rfl, B3.out⟩
set_option maxRecDepth 8000 in
set_option maxHeartbeats 8000000 in
theorem one_ok (v : Value) (bs : List Int) (w : World) (h : Sv w.heap.size w v bs) (hl : bs.length ≤ 1048576) (hE : dcE bs = 0) :
    Calls Try.prog 5 #[v] w fun e' w' => e' = .returned (.bool true) ∧ Below w.heap.size w w' := by
  have H : Hid (Sv w.heap.size w v bs) := h
  have hok : okb bs := by obtain ⟨_, _, _, _, _, _, q⟩ := h; exact q
  have HOK : Hid (okb bs) := hok
  obtain ⟨ao, cap, rfl, -⟩ := h
  obtain ⟨g48, g512, -⟩ := dcE_ok hE
  have HZ : Hid (dcE bs = 0) := hE
  obtain ⟨L, hL⟩ : ∃ L, L = bs.length := ⟨_, rfl⟩
  have HL : Hid (L = bs.length) := hL
  rw [← hL] at H ⊢
  have hLi : (L : Int) ≤ 512 := by omega
  have HR : Hid (∀ v, Below w.heap.size w v → w.heap.size ≤ v.heap.size → Calls Try.prog 18 #[.slice ao L cap] v fun e' w' => ∃ (hh : Hd) (xa : Option Addr) (xn xc : Nat) (kk : Int) (nn : Bool) (ya : Option Addr) (yn yc : Nat), e' = .returned (.tuple #[.agg #[.int .i64 hh.leap, .int .i64 hh.ver, .int .i64 hh.mode, .int .i64 hh.str, .int .i64 hh.poll, .int .i64 hh.prec, .int .i64 hh.del, .int .i64 hh.dis, .int .u32 hh.rid, .int .u64 hh.t0, .int .u64 hh.t1, .int .u64 hh.t2, .int .u64 hh.t3, .slice xa xn xc, .int .i64 kk, .bool nn, .slice ya yn yc], .int .i64 0]) ∧ Below v.heap.size v w') := fun v hb hs => by
    refine (rdecode_any _ bs v ((H.out.below hb (Nat.le_refl _)).mono hs)).mono ?_
    rintro e' w' ⟨h2, ev2, xs2, key2, nak2, mv2, mac2, rfl, hb, hox, hom, -⟩
    rw [HZ.out]
    obtain ⟨xa, xn, xc, rfl⟩ := ox_slice hox
    obtain ⟨ya, yc, rfl, -⟩ := hom.rs
    exact ⟨h2, xa, xn, xc, key2, nak2, ya, _, yc, rfl, hb⟩
  have HC : Hid (∀ v, Below w.heap.size w v → w.heap.size ≤ v.heap.size → Calls Try.prog 21 #[.slice ao L cap] v fun e' w' => ∃ (ver : Int) (r e m : Bool) (op seq sta ass off kk : Int) (xa : Option Addr) (xn xc : Nat) (ya : Option Addr) (yn yc : Nat), e' = .returned (.tuple #[.agg #[.int .i64 ver, .bool r, .bool e, .bool m, .int .i64 op, .int .i64 seq, .int .i64 sta, .int .i64 ass, .int .i64 off, .slice xa xn xc, .int .i64 kk, .slice ya yn yc], .int .i64 32]) ∧ Below v.heap.size v w') := fun v hb hs => by
    refine (decodeControl_any _ bs v (by have := HL.out; omega) ((H.out.below hb (Nat.le_refl _)).mono hs)).mono ?_
    rintro e' w' ⟨ver, r, e, m, op, seq, sta, ass, off, dv, data, key, mv, mac, E, rfl, hb, hod, hom, hDE, -⟩
    rw [wi_mode HZ.out hDE]
    obtain ⟨xa, xc, rfl, -⟩ := hod.rs
    obtain ⟨ya, yc, rfl, -⟩ := hom.rs
    exact ⟨ver, r, e, m, op, seq, sta, ass, off, key, xa, _, xc, ya, _, yc, rfl, hb⟩
  clear hL g48 g512 hl hok
  go_enter Try.func5, Try.ntmps5
  go_wp2_with fail
  refine (decode_any (.slice ao L cap) bs _ (by have := HL.out; omega) H.out).mono ?_
  rintro e' w4 ⟨h2, ev2, xs2, key2, nak2, mv2, mac2, rfl, hb, hox, hom, hdv, -⟩
  rw [HZ.out]
  have hdv' := hdv HZ.out
  have F4 := dc_fwd HOK.out HZ.out hdv'
  have HF4 : Hid (ckE h2 xs2 key2 nak2 mac2.length = 0 ∧ enB h2 xs2 key2 nak2 mac2 = bs ∧ (0 ≤ h2.rid ∧ h2.rid < 4294967296) ∧ xs2.length ≤ 65536 ∧ (∀ x ∈ xs2, x.dat.length ≤ 65536) ∧ mac2.length ≤ 65536) := ⟨F4.1, F4.2.1, ⟨F4.2.2.1, F4.2.2.2.1⟩, by have := F4.2.2.2.2.2.2.2.2.2.1; omega, fun y hy => by have := (F4.2.2.2.2.2.2.2.1 y hy).2; omega, by have := F4.2.2.2.2.2.2.2.2.2.2; omega⟩
  have B4 : Hid (Below w.heap.size w w4) := hb
  have X4 : Hid (Es w4.heap.size w4 ev2 xs2) := hox.es (fun y hy => (F4.2.2.2.2.2.2.2.1 y hy).1)
  have M4 : Hid (Sv w4.heap.size w4 mv2 mac2) := hom.sv F4.2.2.2.2.2.2.2.2.1
  obtain ⟨m2, l2, hmv2, -⟩ := hom.rs
  obtain ⟨e2, c2, hev2, -⟩ := X4.out
  obtain ⟨n2, hn2⟩ : ∃ L, L = xs2.length := ⟨_, rfl⟩
  obtain ⟨k2, hk2⟩ : ∃ L, L = mac2.length := ⟨_, rfl⟩
  rw [← hn2] at hev2
  rw [← hk2] at hmv2
  have HEn2 : Hid (∀ v, Below w4.heap.size w4 v → w4.heap.size ≤ v.heap.size → Calls Try.prog 8 #[pkV h2 ev2 key2 nak2 mv2] v fun e' w' => ∃ b, e' = .returned (.tuple #[b, .int .i64 0]) ∧ Below v.heap.size v w' ∧ Own w' v.heap.size b bs) := fun v hb hs => by
    have := encode_ok h2 _ _ xs2 key2 nak2 mac2 v ((X4.out.below hb (Nat.le_refl _)).mono hs) ((M4.out.below hb (Nat.le_refl _)).mono hs) HF4.out.2.2.2.1 HF4.out.2.2.2.2.1 HF4.out.2.2.2.2.2 HF4.out.2.2.1.1 HF4.out.2.2.1.2 HF4.out.1
    rw [HF4.out.2.1] at this
    exact this
  have HCk : Hid (∀ v, Below w4.heap.size w4 v → w4.heap.size ≤ v.heap.size → Calls Try.prog 12 #[pkV h2 ev2 key2 nak2 mv2] v fun e' w' => e' = .returned (.int .i64 0) ∧ Below v.heap.size v w') := fun v hb hs => by
    have := check_any w4.heap.size h2 ev2 xs2 key2 nak2 m2 k2 l2 v (X4.out.below hb (Nat.le_refl _)) hs HF4.out.2.2.2.1 HF4.out.2.2.2.2.1 (by have := HF4.out.2.2.2.2.2; omega)
    rw [hk2, HF4.out.1, ← hk2, ← hmv2] at this
    exact this
  obtain ⟨C2, hC2⟩ : ∃ C : Array Value, C = #[.int .i64 h2.leap, .int .i64 h2.ver, .int .i64 h2.mode, .int .i64 h2.str, .int .i64 h2.poll, .int .i64 h2.prec, .int .i64 h2.del, .int .i64 h2.dis, .int .u32 h2.rid, .int .u64 h2.t0, .int .u64 h2.t1, .int .u64 h2.t2, .int .u64 h2.t3, .slice e2 n2 c2, .int .i64 key2, .bool nak2, .slice m2 k2 l2] := ⟨_, rfl⟩
  have hP2 : pkV h2 ev2 key2 nak2 mv2 = .agg C2 := by rw [hC2, hev2, hmv2]; rfl
  have hS2 : C2.size = 17 := by rw [hC2]; rfl
  rw [hP2] at HEn2 HCk
  rw [hev2, hmv2]
  have HC2 : Hid (C2 = #[.int .i64 h2.leap, .int .i64 h2.ver, .int .i64 h2.mode, .int .i64 h2.str, .int .i64 h2.poll, .int .i64 h2.prec, .int .i64 h2.del, .int .i64 h2.dis, .int .u32 h2.rid, .int .u64 h2.t0, .int .u64 h2.t1, .int .u64 h2.t2, .int .u64 h2.t3, .slice e2 n2 c2, .int .i64 key2, .bool nak2, .slice m2 k2 l2]) := hC2
  clear hb hox hom hdv hdv' F4 hn2 hk2 hev2 hmv2 hP2 hC2 X4 M4 HF4
  unfold pkV
  go_wp2_with fail
  rw [← HC2.out]
  have sz4 : w.heap.size ≤ w4.heap.size := B4.out.size
  refine (HR.out _ (by repeat' (first | with_reducible exact Below.refl _ _ | with_reducible exact B4.out | with_reducible refine Below.setCell ?_ (by first | (simp; done) | (simp; omega) | omega) _ | with_reducible refine below_drewN ?_ _ | with_reducible refine Below.drew ?_ | with_reducible refine Below.alloc ?_ (by first | (simp; done) | (simp; omega) | omega) _)) (by have := B4.out.size; simp; omega)).mono ?_
  rintro e' w5 ⟨hh, xa, xn, xc, kk, nn, ya, yn, yc, rfl, hb⟩
  have K5 : Hid (Pb w4.heap.size w5 C2) := (Pb.new w4 _).below hb (by simp)
  have B5 : Hid (Below w4.heap.size w4 w5 ∧ Below w.heap.size w w5) := ⟨Below.trans (by repeat' (first | with_reducible exact Below.refl _ _ | with_reducible refine Below.setCell ?_ (by first | (simp; done) | (simp; omega) | omega) _ | with_reducible refine below_drewN ?_ _ | with_reducible refine Below.drew ?_ | with_reducible refine Below.alloc ?_ (by first | (simp; done) | (simp; omega) | omega) _)) (hb.mono (by simp)), Below.trans (by repeat' (first | with_reducible exact Below.refl _ _ | with_reducible exact B4.out | with_reducible refine Below.setCell ?_ (by first | (simp; done) | (simp; omega) | omega) _ | with_reducible refine below_drewN ?_ _ | with_reducible refine Below.drew ?_ | with_reducible refine Below.alloc ?_ (by first | (simp; done) | (simp; omega) | omega) _)) (hb.mono (by have := B4.out.size; simp; omega))⟩
  clear hb
  go_wp2_with (refine step_pk (by rfl) _ (by rfl) _ (by rfl) _ (by first | rfl | exact hS2) (K5.out.below ((Below.refl w5.heap.size w5).alloc (Nat.le_refl _) _) K5.out.lt) ?_)
  have sz5 : w.heap.size ≤ w5.heap.size := B5.out.2.size
  have sz45 : w4.heap.size ≤ w5.heap.size := B5.out.1.size
  refine (HEn2.out _ (by repeat' (first | with_reducible exact Below.refl _ _ | with_reducible exact B5.out.1 | with_reducible refine Below.setCell ?_ (by first | (simp; done) | (simp; omega) | omega) _ | with_reducible refine below_drewN ?_ _ | with_reducible refine Below.drew ?_ | with_reducible refine Below.alloc ?_ (by first | (simp; done) | (simp; omega) | omega) _)) (by simp; omega)).mono ?_
  rintro e' w6 ⟨cv, rfl, hb, ho⟩
  have K6 : Hid (Pb w4.heap.size w6 C2) := (K5.out.below ((Below.refl w5.heap.size w5).alloc (Nat.le_refl _) _) K5.out.lt).below hb (by have := K5.out.lt; simp; omega)
  have B6 : Hid (Below w4.heap.size w4 w6 ∧ Below w.heap.size w w6) := ⟨Below.trans (by repeat' (first | with_reducible exact Below.refl _ _ | with_reducible exact B5.out.1 | with_reducible refine Below.setCell ?_ (by first | (simp; done) | (simp; omega) | omega) _ | with_reducible refine below_drewN ?_ _ | with_reducible refine Below.drew ?_ | with_reducible refine Below.alloc ?_ (by first | (simp; done) | (simp; omega) | omega) _)) (hb.mono (by simp; omega)), Below.trans (by repeat' (first | with_reducible exact Below.refl _ _ | with_reducible exact B5.out.2 | with_reducible refine Below.setCell ?_ (by first | (simp; done) | (simp; omega) | omega) _ | with_reducible refine below_drewN ?_ _ | with_reducible refine Below.drew ?_ | with_reducible refine Below.alloc ?_ (by first | (simp; done) | (simp; omega) | omega) _)) (hb.mono (by simp; omega))⟩
  have O6 : Hid (Own w6 w.heap.size cv bs) := ho.mono (by simp; omega)
  clear hb ho
  go_wp2_with fail
  refine (HC.out _ B6.out.2 B6.out.2.size).mono ?_
  rintro e' w7 ⟨ver, r, e, m, op, seq, sta, ass, off, kk2, xa2, xn2, xc2, ya2, yn2, yc2, rfl, hb⟩
  have K7 : Hid (Pb w4.heap.size w7 C2) := K6.out.below hb K6.out.lt
  have B7 : Hid (Below w4.heap.size w4 w7 ∧ Below w.heap.size w w7) := ⟨B6.out.1.trans (hb.mono B6.out.1.size), B6.out.2.trans (hb.mono B6.out.2.size)⟩
  have O7 : Hid (Own w7 w.heap.size cv bs) := O6.out.below hb (Nat.le_refl _)
  clear hb K5 K6 B5 B6 O6
  go_wp2_with (first | (go_at_call 13; refine (lbytes_eq w.heap.size w7.heap.size _ _ bs _ (H.out.below (B7.out.2.alloc B7.out.2.size _) (Nat.le_refl _)) ((O7.out.sv HOK.out).below ((Below.refl w7.heap.size w7).alloc (Nat.le_refl _) _) (Nat.le_refl _))).mono ?_; rintro e' w9 ⟨rfl, hw9⟩; rw [hw9]; clear hw9) | (refine step_pk (by rfl) _ (by rfl) _ (by rfl) _ (by first | rfl | exact hS2) (K7.out.below ((Below.refl w7.heap.size w7).alloc (Nat.le_refl _) _) K7.out.lt) ?_) | (go_at_call 12; refine (HCk.out _ (B7.out.1.alloc B7.out.1.size _) (by have := B7.out.1.size; simp; omega)).mono ?_; rintro e' w8 ⟨rfl, hb8⟩; have B8 : Hid (Below w.heap.size w w8) := (B7.out.2.alloc B7.out.2.size _).trans (hb8.mono (by have := B7.out.2.size; simp; omega)); clear hb8))
  go_ret
  exact ⟨rfl, B8.out⟩
theorem one_any (v : Value) (bs : List Int) (w : World) (h : Sv w.heap.size w v bs) (hl : bs.length ≤ 1048576) :
    Calls Try.prog 5 #[v] w fun e' w' => e' = .returned (.bool true) ∧ Below w.heap.size w w' := by
  by_cases hE : dcE bs = 0
  · exact one_ok v bs w h hl hE
  · exact one_err v bs w h hl hE
set_option maxHeartbeats 400000 in
theorem one_long (v : Value) (bs : List Int) (w : World) (h : Sv w.heap.size w v bs) (hl : ¬ bs.length ≤ 1048576) :
    Calls Try.prog 5 #[v] w fun e' w' => e' = .returned (.bool true) ∧ Below w.heap.size w w' := by
  obtain ⟨ao, cap, rfl, -⟩ := h
  obtain ⟨L, hL⟩ : ∃ L, L = bs.length := ⟨_, rfl⟩
  rw [← hL]
  have hLi : (1048576 : Int) < L := by omega
  clear hL hl
  go_enter Try.func5, Try.ntmps5
  go_wp2_with fail
  go_ret
  exact ⟨rfl, Below.refl _ _⟩
theorem WireOne_row (v : Value) (bs : List Int) (w : World) (h : Sv w.heap.size w v bs) (_l : bs.length ≤ maxLen) :
    Calls Try.prog 5 #[v] w fun e' w' => e' = .returned (.bool true) ∧ Below w.heap.size w w' := by
  by_cases hl : bs.length ≤ 1048576
  · exact one_any v bs w h hl
  · exact one_long v bs w h hl
end Go.Proofs.Ytdobghhjlfffpaa
