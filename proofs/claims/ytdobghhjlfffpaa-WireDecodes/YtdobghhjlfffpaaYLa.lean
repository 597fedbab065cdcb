/- The reference's Decode of packets of time: its end, behind the last field. -/
import Derived.Test.YtdobghhjlfffpaaYI
namespace Go.Proofs.Ytdobghhjlfffpaa
open Go.RowKit
set_option linter.unusedVariables false
theorem seq_hid3 {P : Program} {c1 c2 : Code} {Q : Exit → Act → World → Prop} {a : Act} {w : World} (h : ∀ R, Hid (R = c2) → Code.wp P (c1.seq R) Q a w) : Code.wp P (c1.seq c2) Q a w := h c2 rfl
theorem post_hid3 {P : Program} {c : Code} {Q : Exit → Act → World → Prop} {a : Act} {w : World} (h : ∀ R, Hid (R = Q) → Code.wp P c R a w) : Code.wp P c Q a w := h Q rfl
def dropSeq3 : Nat → Code → Code
  | 0, c => c
  | n + 1, .seq _ c => dropSeq3 n c
  | _, c => c
def seqTo3 : Nat → Code → Code → Code
  | 0, _, t => t
  | n + 1, .seq a c, t => .seq a (seqTo3 n c t)
  | _, c, _ => c
def rdEnd (f : Go.Func) : Code := dropSeq3 15 (f.body.getD .skip)
def rdLoop (f : Go.Func) : Code := dropSeq3 14 (f.body.getD .skip)
def rdFields (f : Go.Func) : Code := dropSeq3 5 (f.body.getD .skip)
set_option maxRecDepth 40000 in
set_option maxHeartbeats 4000000 in
theorem rd_end (bs : List Int) (w : World) (h48 : 48 ≤ bs.length) (h512 : bs.length ≤ 512) (LP VR MD x1 x2 x3 D6 D7 y8 y9 y10 y11 y12 : Int) (hHH : (⟨LP, VR, MD, x1, sg x2, sg x3, D6, D7, y8, y9, y10, y11, y12⟩ : Hd) = hdD bs) (hHV : vmB bs = true) (ea : Option Addr) (en ec : Nat) (xs : List Xt) (ao2 : Option Addr) (L2 cap2 : Nat) (b2 : List Int) (wr : World) (h2 : RL w wr (fun ev => #[.int .i64 LP, .int .i64 VR, .int .i64 MD, .int .i64 x1, .int .i64 (sg x2), .int .i64 (sg x3), .int .i64 D6, .int .i64 D7, .int .u32 y8, .int .u64 y9, .int .u64 y10, .int .u64 y11, .int .u64 y12, ev, .int .i64 0, .bool false, .slice none 0 0]) (.slice ao2 L2 cap2) (.slice ea en ec) xs (bs.drop 48) b2) (hle : b2.length ≤ 24) (v1 v3 v6 v7 v8 v9 v10 v11 v12 v13 v14 v15 v16 v17 v18 v19 v20 v21 v22 v23 v24 v25 v26 v27 v28 v29 v30 v31 v32 v33 v34 v35 v36 v37 v38 v39 v40 v41 v42 v43 v44 v45 v46 v47 v48 v49 v50 v51 v52 v53 v54 v55 v56 v57 v58 v59 v60 v61 v62 v63 v64 v65 v66 v67 v68 v69 v70 v71 v72 v73 v74 v75 v76 v77 v78 v79 v80 v81 v82 v83 v84 v85 v86 v87 v88 v89 v90 v91 v92 v93 v94 v95 v96 v97 v98 v99 v100 v101 v102 v103 v104 v105 v106 v107 v108 v109 v110 v111 v112 v113 v114 v115 v116 v117 v118 v119 v120 v121 v122 v123 v124 v125 v126 v127 v128 v129 v130 v131 v132 v133 v134 v135 v136 v137 v138 v139 v140 v141 v142 v143 v144 v145 v146 v147 v148 v149 v150 v151 v152 v153 v154 v155 v156 v157 v158 v159 : Value) :
    Code.wp Try.prog (rdEnd Try.f18) (bodyPost Try.prog Try.f18 (fun e w9 => DcR bs w e w9)) { tmps := #[.slice ao2 L2 cap2, v1, .pointer (some ⟨w.heap.size, 0, none⟩), v3, .pointer (some ⟨w.heap.size + 1, 0, none⟩), .pointer (some ⟨w.heap.size + 2, 0, none⟩), v6, v7, v8, v9, v10, v11, v12, v13, v14, v15, v16, v17, v18, v19, v20, v21, v22, v23, v24, v25, v26, v27, v28, v29, v30, v31, v32, v33, v34, v35, v36, v37, v38, v39, v40, v41, v42, v43, v44, v45, v46, v47, v48, v49, v50, v51, v52, v53, v54, v55, v56, v57, v58, v59, v60, v61, v62, v63, v64, v65, v66, v67, v68, v69, v70, v71, v72, v73, v74, v75, v76, v77, v78, v79, v80, v81, v82, v83, v84, v85, v86, v87, v88, v89, v90, v91, v92, v93, v94, v95, v96, v97, v98, v99, v100, v101, v102, v103, v104, v105, v106, v107, v108, v109, v110, v111, v112, v113, v114, v115, v116, v117, v118, v119, v120, v121, v122, v123, v124, v125, v126, v127, v128, v129, v130, v131, v132, v133, v134, v135, v136, v137, v138, v139, v140, v141, v142, v143, v144, v145, v146, v147, v148, v149, v150, v151, v152, v153, v154, v155, v156, v157, v158, v159], defers := [] } wr := by
  have HLE : Hid (48 ≤ bs.length ∧ bs.length ≤ 512) := ⟨h48, h512⟩
  have HH : Hid ((⟨LP, VR, MD, x1, sg x2, sg x3, D6, D7, y8, y9, y10, y11, y12⟩ : Hd) = hdD bs) := hHH
  have HV : Hid (vmB bs = true) := hHV
  have H2 : Hid (RL w wr (fun ev => #[.int .i64 LP, .int .i64 VR, .int .i64 MD, .int .i64 x1, .int .i64 (sg x2), .int .i64 (sg x3), .int .i64 D6, .int .i64 D7, .int .u32 y8, .int .u64 y9, .int .u64 y10, .int .u64 y11, .int .u64 y12, ev, .int .i64 0, .bool false, .slice none 0 0]) (.slice ao2 L2 cap2) (.slice ea en ec) xs (bs.drop 48) b2) := h2
  have HL2 : Hid (L2 = b2.length) := by obtain ⟨_, _, hv, _⟩ := H2.out.sv; injection hv
  obtain ⟨LI, hLI⟩ : ∃ x : Int, (L2 : Int) = x := ⟨_, rfl⟩
  have HLI : Hid ((L2 : Int) = LI) := hLI
  have hl2 : LI ≤ 512 := by have := HL2.out; have := H2.out.ln; omega
  have hl0 : 0 ≤ LI := by omega
  have h24 : ¬ 24 < LI := by have := HL2.out; omega
  have HOK : Hid (okb b2) := by obtain ⟨_, _, _, _, _, _, ho⟩ := H2.out.sv; exact ho
  have HEN : Hid (en = xs.length) := H2.out.ox.len
  clear h2 hle hHH hHV h48 h512
  refine post_hid3 fun QB hQB => ?_
  unfold rdEnd Try.f18
  simp only [dropSeq3, Option.getD_some]
  have HS : Hid (dL 4 (bs.drop 48) = (0, prs xs, b2)) := H2.out.sq.stop (by have := HL2.out; have := HLI.out; omega)
  have HES : Hid (dcE bs = enE b2 0) := dcE_s HLE.out.1 HLE.out.2 HV.out HS.out
  by_cases l4 : LI = 4
  · have l4b : (LI == 4) = true := by rw [l4]; rfl
    have HN : Hid (b2.length = 4) := by have := HL2.out; have := HLI.out; show _ = _; omega
    obtain ⟨Y, hY⟩ : ∃ y, y = gt b2 := ⟨_, rfl⟩
    have HG : Hid (∀ v, Below w.heap.size w v → Calls Try.prog 43 #[.slice ao2 L2 cap2] v fun e' w2 => e' = .returned (.int .u64 Y) ∧ w2 = v) := fun v hb => by
      rw [hY]; exact get_any w.heap.size _ _ v (H2.out.sv.below hb (Nat.le_refl _)) (by have := HN.out; omega)
    have HY : Hid (Y = gt b2) := hY
    clear hY l4
    have u15 : wr.cell? ⟨w.heap.size + 2, 15, none⟩ = some (.bool false) := H2.out.pc.c.cell 15
    have f15 := H2.out.pc.c.frozen 15
    have hle : LI ≤ 24 := by omega
    go_wp2_with fail
    have P15 : Hid (PC w (wr.setCell ⟨w.heap.size + 2, 15, none⟩ (.bool true)) #[.int .i64 LP, .int .i64 VR, .int .i64 MD, .int .i64 x1, .int .i64 (sg x2), .int .i64 (sg x3), .int .i64 D6, .int .i64 D7, .int .u32 y8, .int .u64 y9, .int .u64 y10, .int .u64 y11, .int .u64 y12, .slice ea en ec, .int .i64 0, .bool true, .slice none 0 0]) := H2.out.pc.set 15 _
    refine (HG.out _ P15.out.bl).mono ?_
    rintro e' w9 ⟨rfl, hw9⟩
    rw [hw9]
    clear hw9
    by_cases hz : Y = 0
    · have hzb : (Y != 0) = false := by rw [hz]; rfl
      have HE : Hid (dcE bs = 0) := by show _ = _; rw [HES.out, (en4 HN.out).1, ← HY.out, if_pos hz]
      clear hz
      go_wp2_with (first | (refine step_pk (by rfl) _ (by rfl) (w.heap.size + 2) (by rfl) #[.int .i64 LP, .int .i64 VR, .int .i64 MD, .int .i64 x1, .int .i64 (sg x2), .int .i64 (sg x3), .int .i64 D6, .int .i64 D7, .int .u32 y8, .int .u64 y9, .int .u64 y10, .int .u64 y11, .int .u64 y12, .slice ea en ec, .int .i64 0, .bool true, .slice none 0 0] (by rfl) ?_ ?_; exact P15.out.c) | (refine step_spk (by rfl) _ _ (by rfl) w.heap.size #[.int .i64 LP, .int .i64 VR, .int .i64 MD, .int .i64 x1, .int .i64 (sg x2), .int .i64 (sg x3), .int .i64 D6, .int .i64 D7, .int .u32 y8, .int .u64 y9, .int .u64 y10, .int .u64 y11, .int .u64 y12, .slice ea en ec, .int .i64 0, .bool true, .slice none 0 0] (by rfl) (by rfl) #[.int .i64 0, .int .i64 0, .int .i64 0, .int .i64 0, .int .i64 0, .int .i64 0, .int .i64 0, .int .i64 0, .int .u32 0, .int .u64 0, .int .u64 0, .int .u64 0, .int .u64 0, .slice none 0 0, .int .i64 0, .bool false, .slice none 0 0] ?_ (by rfl) (by rfl) (by kernel_rfl) ?_; exact P15.out.z0))
      rw [hQB.out]
      refine bodyPost_ret (v := .tuple #[.agg #[.int .i64 LP, .int .i64 VR, .int .i64 MD, .int .i64 x1, .int .i64 (sg x2), .int .i64 (sg x3), .int .i64 D6, .int .i64 D7, .int .u32 y8, .int .u64 y9, .int .u64 y10, .int .u64 y11, .int .u64 y12, .slice ea en ec, .int .i64 0, .bool true, .slice none 0 0], .int .i64 0]) (res_pk2 Try.results18 _ _ w.heap.size _ _ (by rfl) (by rfl) (Bk.row P15.out.z0) (by rfl)) rfl ⟨(⟨LP, VR, MD, x1, sg x2, sg x3, D6, D7, y8, y9, y10, y11, y12⟩ : Hd), _, xs, 0, true, _, [], by rw [HE.out]; rfl, Bk.below_row P15.out.bl P15.out.z0.lt, ?_, ?_, fun _ => ⟨HH.out, by rw [HS.out], by rw [HS.out]; exact (en4 HN.out).2.1.symm, by rw [HS.out]; exact (en4 HN.out).2.2.symm, by rw [HS.out]; exact (decide_eq_true HN.out).symm⟩, fun x => absurd HE.out x⟩
      · exact OX.mono (OX.mod (H2.out.ox.low (by omega)) (mod_row _ _ _) (by omega)) (by omega)
      · exact Own.mono (Own.mod (Own.nil _ (w.heap.size + 3)) (mod_row _ _ _) (by omega)) (by omega)

    · have hzb : (Y != 0) = true := by rw [bne_iff_ne]; exact hz
      have HE : Hid (dcE bs = 32) := by show _ = _; rw [HES.out, (en4 HN.out).1, ← HY.out, if_neg hz]
      clear hz
      go_wp2_with (first | (refine step_ld _ (by rfl) (by rfl) (w.heap.size + 1) #[.int .i64 0, .int .i64 0, .int .i64 0, .int .i64 0, .int .i64 0, .int .i64 0, .int .i64 0, .int .i64 0, .int .u32 0, .int .u64 0, .int .u64 0, .int .u64 0, .int .u64 0, .slice none 0 0, .int .i64 0, .bool false, .slice none 0 0] zs17 P15.out.z1 (by rfl) ?_) | (refine step_st _ _ (by rfl) (by rfl) w.heap.size #[.int .i64 0, .int .i64 0, .int .i64 0, .int .i64 0, .int .i64 0, .int .i64 0, .int .i64 0, .int .i64 0, .int .u32 0, .int .u64 0, .int .u64 0, .int .u64 0, .int .u64 0, .slice none 0 0, .int .i64 0, .bool false, .slice none 0 0] #[.int .i64 0, .int .i64 0, .int .i64 0, .int .i64 0, .int .i64 0, .int .i64 0, .int .i64 0, .int .i64 0, .int .u32 0, .int .u64 0, .int .u64 0, .int .u64 0, .int .u64 0, .slice none 0 0, .int .i64 0, .bool false, .slice none 0 0] zs17 zs17 za17 P15.out.z0 (by rfl) (by rfl) ?_))
      rw [hQB.out]
      exact bodyPost_ret (v := .tuple #[.agg #[.int .i64 0, .int .i64 0, .int .i64 0, .int .i64 0, .int .i64 0, .int .i64 0, .int .i64 0, .int .i64 0, .int .u32 0, .int .u64 0, .int .u64 0, .int .u64 0, .int .u64 0, .slice none 0 0, .int .i64 0, .bool false, .slice none 0 0], .int .i64 32]) (res_pk2 Try.results18 _ _ w.heap.size _ _ (by rfl) (by rfl) (Bk.row P15.out.z0) (by rfl)) rfl (DcR.err HE.out (by decide) (Bk.below_row P15.out.bl P15.out.z0.lt))

  · have l4b : (LI == 4) = false := by rw [beq_eq_false_iff_ne]; exact l4
    have HN : Hid (b2.length ≠ 4) := by have := HL2.out; have := HLI.out; show _ ≠ _; omega
    have hle : LI ≤ 24 := by omega
    clear l4
    go_wp2_with fail
    refine (tail_any w.heap.size _ b2 _ (by have := H2.out.ln; omega) (H2.out.sv.below H2.out.pc.bl (Nat.le_refl _)) H2.out.pc.bl.size).mono ?_
    rintro e' W9 ⟨kk, mv, mac, okv, rfl, hb9, ho9, htp⟩
    have P9 : Hid (PC w W9 #[.int .i64 LP, .int .i64 VR, .int .i64 MD, .int .i64 x1, .int .i64 (sg x2), .int .i64 (sg x3), .int .i64 D6, .int .i64 D7, .int .u32 y8, .int .u64 y9, .int .u64 y10, .int .u64 y11, .int .u64 y12, .slice ea en ec, .int .i64 0, .bool false, .slice none 0 0]) := H2.out.pc.below hb9
    have X9 : Hid (OX W9 (w.heap.size + 3) (.slice ea en ec) xs ∧ Own W9 (w.heap.size + 3) mv mac) := ⟨H2.out.ox.below hb9 (Nat.le_refl _), ho9.mono H2.out.pc.c.lt⟩
    obtain ⟨ma, mc, hmv, -⟩ := ho9.rs
    subst hmv
    obtain ⟨Mn, hMn⟩ : ∃ M, M = mac.length := ⟨_, rfl⟩
    rw [← hMn] at X9 ⊢
    clear hb9 ho9 hMn
    rcases htp with ⟨rfl, hg, hkk, hmac⟩ | ⟨rfl, hng⟩
    · have HE : Hid (dcE bs = 0) := by show _ = _; rw [HES.out]; exact ((enT HN.out).1 hg).1
      have HK : Hid (kk = enK b2 0 ∧ mac = enM b2 0) := ⟨by rw [((enT HN.out).1 hg).2.1]; exact hkk, by rw [((enT HN.out).1 hg).2.2]; exact hmac⟩
      clear hg hkk hmac
      have u14 : W9.cell? ⟨w.heap.size + 2, 14, none⟩ = some (.int .i64 0) := P9.out.c.cell 14
      have u16 : W9.cell? ⟨w.heap.size + 2, 16, none⟩ = some (.slice none 0 0) := P9.out.c.cell 16
      have f14 := P9.out.c.frozen 14
      have f16 := P9.out.c.frozen 16
      have PE : Hid (PC w ((W9.setCell ⟨w.heap.size + 2, 14, none⟩ (.int .i64 kk)).setCell ⟨w.heap.size + 2, 16, none⟩ (.slice ma Mn mc)) #[.int .i64 LP, .int .i64 VR, .int .i64 MD, .int .i64 x1, .int .i64 (sg x2), .int .i64 (sg x3), .int .i64 D6, .int .i64 D7, .int .u32 y8, .int .u64 y9, .int .u64 y10, .int .u64 y11, .int .u64 y12, .slice ea en ec, .int .i64 kk, .bool false, .slice ma Mn mc]) := (P9.out.set 14 _).set 16 _
      go_wp2_with (first | (refine step_pk (by rfl) _ (by rfl) (w.heap.size + 2) (by rfl) #[.int .i64 LP, .int .i64 VR, .int .i64 MD, .int .i64 x1, .int .i64 (sg x2), .int .i64 (sg x3), .int .i64 D6, .int .i64 D7, .int .u32 y8, .int .u64 y9, .int .u64 y10, .int .u64 y11, .int .u64 y12, .slice ea en ec, .int .i64 kk, .bool false, .slice ma Mn mc] (by rfl) ?_ ?_; exact PE.out.c) | (refine step_spk (by rfl) _ _ (by rfl) w.heap.size #[.int .i64 LP, .int .i64 VR, .int .i64 MD, .int .i64 x1, .int .i64 (sg x2), .int .i64 (sg x3), .int .i64 D6, .int .i64 D7, .int .u32 y8, .int .u64 y9, .int .u64 y10, .int .u64 y11, .int .u64 y12, .slice ea en ec, .int .i64 kk, .bool false, .slice ma Mn mc] (by rfl) (by rfl) #[.int .i64 0, .int .i64 0, .int .i64 0, .int .i64 0, .int .i64 0, .int .i64 0, .int .i64 0, .int .i64 0, .int .u32 0, .int .u64 0, .int .u64 0, .int .u64 0, .int .u64 0, .slice none 0 0, .int .i64 0, .bool false, .slice none 0 0] ?_ (by rfl) (by rfl) (by kernel_rfl) ?_; exact PE.out.z0))
      rw [hQB.out]
      refine bodyPost_ret (v := .tuple #[.agg #[.int .i64 LP, .int .i64 VR, .int .i64 MD, .int .i64 x1, .int .i64 (sg x2), .int .i64 (sg x3), .int .i64 D6, .int .i64 D7, .int .u32 y8, .int .u64 y9, .int .u64 y10, .int .u64 y11, .int .u64 y12, .slice ea en ec, .int .i64 kk, .bool false, .slice ma Mn mc], .int .i64 0]) (res_pk2 Try.results18 _ _ w.heap.size _ _ (by rfl) (by rfl) (Bk.row PE.out.z0) (by rfl)) rfl ⟨(⟨LP, VR, MD, x1, sg x2, sg x3, D6, D7, y8, y9, y10, y11, y12⟩ : Hd), _, xs, kk, false, _, mac, by rw [HE.out]; rfl, Bk.below_row PE.out.bl PE.out.z0.lt, ?_, ?_, fun _ => ⟨HH.out, by rw [HS.out], by rw [HS.out]; exact HK.out.1, by rw [HS.out]; exact HK.out.2, by rw [HS.out]; exact (decide_eq_false HN.out).symm⟩, fun x => absurd HE.out x⟩
      · exact OX.mono (OX.mod ((X9.out.1.low (by omega)).low (by omega)) (mod_row _ _ _) (by omega)) (by omega)
      · exact Own.mono (Own.mod ((X9.out.2.low (by omega)).low (by omega)) (mod_row _ _ _) (by omega)) (by omega)

    · have HE : Hid (dcE bs = 32) := by show _ = _; rw [HES.out]; exact (enT HN.out).2 hng
      clear hng
      go_wp2_with (first | (refine step_ld _ (by rfl) (by rfl) (w.heap.size + 1) #[.int .i64 0, .int .i64 0, .int .i64 0, .int .i64 0, .int .i64 0, .int .i64 0, .int .i64 0, .int .i64 0, .int .u32 0, .int .u64 0, .int .u64 0, .int .u64 0, .int .u64 0, .slice none 0 0, .int .i64 0, .bool false, .slice none 0 0] zs17 P9.out.z1 (by rfl) ?_) | (refine step_st _ _ (by rfl) (by rfl) w.heap.size #[.int .i64 0, .int .i64 0, .int .i64 0, .int .i64 0, .int .i64 0, .int .i64 0, .int .i64 0, .int .i64 0, .int .u32 0, .int .u64 0, .int .u64 0, .int .u64 0, .int .u64 0, .slice none 0 0, .int .i64 0, .bool false, .slice none 0 0] #[.int .i64 0, .int .i64 0, .int .i64 0, .int .i64 0, .int .i64 0, .int .i64 0, .int .i64 0, .int .i64 0, .int .u32 0, .int .u64 0, .int .u64 0, .int .u64 0, .int .u64 0, .slice none 0 0, .int .i64 0, .bool false, .slice none 0 0] zs17 zs17 za17 P9.out.z0 (by rfl) (by rfl) ?_))
      rw [hQB.out]
      exact bodyPost_ret (v := .tuple #[.agg #[.int .i64 0, .int .i64 0, .int .i64 0, .int .i64 0, .int .i64 0, .int .i64 0, .int .i64 0, .int .i64 0, .int .u32 0, .int .u64 0, .int .u64 0, .int .u64 0, .int .u64 0, .slice none 0 0, .int .i64 0, .bool false, .slice none 0 0], .int .i64 32]) (res_pk2 Try.results18 _ _ w.heap.size _ _ (by rfl) (by rfl) (Bk.row P9.out.z0) (by rfl)) rfl (DcR.err HE.out (by decide) (Bk.below_row P9.out.bl P9.out.z0.lt))

end Go.Proofs.Ytdobghhjlfffpaa
