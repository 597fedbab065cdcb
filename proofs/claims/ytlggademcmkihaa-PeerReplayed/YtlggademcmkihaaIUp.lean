/- PeerReplayed: what was taken comes again. -/
import Derived.Test.YtlggademcmkihaaIUt
namespace Go.Proofs.Ytlggademcmkihaa
open Go Go.RowKit Go.Sort Go.Maps
set_option linter.unusedVariables false in
set_option maxRecDepth 20000 in
set_option maxHeartbeats 20000000 in
theorem pick15 (a : As) (own : Int) (w W0 : World) (p q X Y M bs k n kn : Nat) (ao po tq : Option Addr) (cap pc tn tc : Nat) (z : Stp) (s : Ps) (org X0 : Int) (A' : Int → Bool) (nm' : Nat) (T : List Pk) (QB : Exit → Act → World → Prop) (v8 v17 v18 v19 v20 v21 v22 v23 v24 v25 v26 v27 v28 v29 v42 v43 v44 v45 v46 v47 v48 v49 v50 v51 v52 v53 v54 v55 v56 v57 v58 v59 v60 v61 v62 v63 v64 v65 v66 v67 v68 v69 v70 v71 v72 v73 v74 v75 v76 v77 v78 v79 v80 v81 v82 v83 v84 v85 v86 v87 v88 v89 v90 v91 v92 v93 v94 v95 v96 v97 v98 v99 v100 v101 v102 v103 v104 v105 v106 v107 v108 v109 v110 v111 v112 v113 v114 v115 v116 v117 v118 v119 v120 v121 v122 v123 v124 v125 v126 v127 v128 v129 v130 v131 v132 v133 v134 v135 v136 v137 v138 v139 v140 v141 v142 v143 v144 v145 v146 v147 v148 v149 v150 v151 v152 v153 v154 v155 v156 v157 v158 v159 v160 v161 v162 v163 v164 v165 v166 v167 v168 v169 v170 v171 v172 v173 v174 v175 v176 v177 v178 v179 v180 v181 v182 v183 v184 v185 v186 v187 v188 v189 v190 v191 v192 v193 v194 v195 v196 v197 v198 v199 v200 v201 v202 v203 v204 v205 v206 : Value) (ks : List Int) (hs : okS s) (ho : U64 org) (hz : okX z) (hbs : w.heap.size ≤ bs) (hrm : (T.length + 1) * 168 ≤ 140737488355328) (htn : tn = T.length) (hknb : (kn : Int) ≤ 9223372036854775807) (hpk : Si w.heap.size w (.slice po kn pc) ks ∧ kn = ks.length) (hri : RI X0 A' s T) (h0 : RL w W0 p q X Y M s s org org nm' A' (.slice tq tn tc) T [(bs, spC z, 46)]) (hnext : ∀ (W1 : World) (y8 y17 y18 y19 y20 y21 y22 y23 y24 y25 y26 y27 y28 y29 y42 y43 y44 y45 y46 y47 y48 y49 y50 y51 y52 y53 y54 y55 y56 y57 y58 y59 y60 y61 y62 y63 y64 y65 y66 y67 y68 y69 y70 y71 y72 y73 y74 y75 y76 y77 y78 y79 y80 y81 y82 y83 y84 y85 y86 y87 y88 y89 y90 y91 y92 y93 y94 y95 y96 y97 y98 y99 y100 y101 y102 y103 y104 y105 y106 y107 y108 y109 y110 y111 y112 y113 y114 y115 y116 y117 y118 y119 y120 y121 y122 y123 y124 y125 y126 y127 y128 y129 y130 y131 y132 y133 y134 y135 y136 y137 y138 y139 y140 y141 y142 y143 y144 y145 y146 y147 y148 y149 y150 y151 y152 y153 y154 y155 y156 y157 y158 y159 y160 y161 y162 y163 y164 y165 y166 y167 y168 y169 y170 y171 y172 y173 y174 y175 y176 y177 y178 y179 y180 y181 y182 y183 y184 y185 y186 y187 y188 y189 y190 y191 y192 y193 y194 y195 y196 y197 y198 y199 y200 y201 y202 y203 y204 y205 y206 : Value), RL w W1 p q X Y M s s org org nm' A' (.slice tq tn tc) T [(bs, spC z, 46)] → Code.wp Try.prog (c21 Try.f8) QB { tmps := #[.agg (asL a).toArray, .int .u32 own, .slice ao n cap, .slice po kn pc, .pointer (some ⟨w.heap.size, 0, none⟩), undef, undef, undef, y8, .pointer (some ⟨p, 0, none⟩), .pointer (some ⟨q, 0, none⟩), .pointer (some ⟨X, 0, none⟩), .pointer (some ⟨Y, 0, none⟩), .slice tq tn tc, .map (some M), .int .i64 (k : Int), .pointer (some ⟨bs, 0, none⟩), y17, y18, y19, y20, y21, y22, y23, y24, y25, y26, y27, y28, y29, .bool true, .bool false, .agg #[.int .i64 a.kind, .int .u32 a.addr, .int .i64 a.key, .int .i64 a.minp, .int .i64 a.maxp, .bool a.burst, .bool a.ib, .bool a.pref, .int .i64 a.ttl, .bool a.pulse, .int .i64 a.fudge, .int .i64 a.str], .int .u32 own, .pointer (some ⟨p, 0, none⟩), .agg #[.int .i64 a.kind, .int .u32 a.addr, .int .i64 a.key, .int .i64 a.minp, .int .i64 a.maxp, .bool a.burst, .bool a.ib, .bool a.pref, .int .i64 a.ttl, .bool a.pulse, .int .i64 a.fudge, .int .i64 a.str], .int .u32 own, .pointer (some ⟨q, 0, none⟩), .map (some M), .slice ao n cap, .int .i64 (n : Int), .int .i64 (k : Int), y42, y43, y44, y45, y46, y47, y48, y49, y50, y51, y52, y53, y54, y55, y56, y57, y58, y59, y60, y61, y62, y63, y64, y65, y66, y67, y68, y69, y70, y71, y72, y73, y74, y75, y76, y77, y78, y79, y80, y81, y82, y83, y84, y85, y86, y87, y88, y89, y90, y91, y92, y93, y94, y95, y96, y97, y98, y99, y100, y101, y102, y103, y104, y105, y106, y107, y108, y109, y110, y111, y112, y113, y114, y115, y116, y117, y118, y119, y120, y121, y122, y123, y124, y125, y126, y127, y128, y129, y130, y131, y132, y133, y134, y135, y136, y137, y138, y139, y140, y141, y142, y143, y144, y145, y146, y147, y148, y149, y150, y151, y152, y153, y154, y155, y156, y157, y158, y159, y160, y161, y162, y163, y164, y165, y166, y167, y168, y169, y170, y171, y172, y173, y174, y175, y176, y177, y178, y179, y180, y181, y182, y183, y184, y185, y186, y187, y188, y189, y190, y191, y192, y193, y194, y195, y196, y197, y198, y199, y200, y201, y202, y203, y204, y205, y206], defers := [] } W1) : Code.wp Try.prog (c15 Try.f8) QB { tmps := #[.agg (asL a).toArray, .int .u32 own, .slice ao n cap, .slice po kn pc, .pointer (some ⟨w.heap.size, 0, none⟩), undef, undef, undef, v8, .pointer (some ⟨p, 0, none⟩), .pointer (some ⟨q, 0, none⟩), .pointer (some ⟨X, 0, none⟩), .pointer (some ⟨Y, 0, none⟩), .slice tq tn tc, .map (some M), .int .i64 (k : Int), .pointer (some ⟨bs, 0, none⟩), v17, v18, v19, v20, v21, v22, v23, v24, v25, v26, v27, v28, v29, .bool true, .bool false, .agg #[.int .i64 a.kind, .int .u32 a.addr, .int .i64 a.key, .int .i64 a.minp, .int .i64 a.maxp, .bool a.burst, .bool a.ib, .bool a.pref, .int .i64 a.ttl, .bool a.pulse, .int .i64 a.fudge, .int .i64 a.str], .int .u32 own, .pointer (some ⟨p, 0, none⟩), .agg #[.int .i64 a.kind, .int .u32 a.addr, .int .i64 a.key, .int .i64 a.minp, .int .i64 a.maxp, .bool a.burst, .bool a.ib, .bool a.pref, .int .i64 a.ttl, .bool a.pulse, .int .i64 a.fudge, .int .i64 a.str], .int .u32 own, .pointer (some ⟨q, 0, none⟩), .map (some M), .slice ao n cap, .int .i64 (n : Int), .int .i64 (k : Int), v42, v43, v44, v45, v46, v47, v48, v49, v50, v51, v52, v53, v54, v55, v56, v57, v58, v59, v60, v61, v62, v63, v64, v65, v66, v67, v68, v69, v70, v71, v72, v73, v74, v75, v76, v77, v78, v79, v80, v81, v82, v83, v84, v85, v86, v87, v88, v89, v90, v91, v92, v93, v94, v95, v96, v97, v98, v99, v100, v101, v102, v103, v104, v105, v106, v107, v108, v109, v110, v111, v112, v113, v114, v115, v116, v117, v118, v119, v120, v121, v122, v123, v124, v125, v126, v127, v128, v129, v130, v131, v132, v133, v134, v135, v136, v137, v138, v139, v140, v141, v142, v143, v144, v145, v146, v147, v148, v149, v150, v151, v152, v153, v154, v155, v156, v157, v158, v159, v160, v161, v162, v163, v164, v165, v166, v167, v168, v169, v170, v171, v172, v173, v174, v175, v176, v177, v178, v179, v180, v181, v182, v183, v184, v185, v186, v187, v188, v189, v190, v191, v192, v193, v194, v195, v196, v197, v198, v199, v200, v201, v202, v203, v204, v205, v206], defers := [] } W0 := by
  have HL0 : Hid (RL w W0 p q X Y M s s org org nm' A' (.slice tq tn tc) T [(bs, spC z, 46)]) := h0
  have HRI : Hid (RI X0 A' s T) := hri
  have HOk : Hid (True ∧ okS s ∧ U64 org) := ⟨trivial, hs, ho⟩
  have HRM : Hid ((T.length + 1) * 168 ≤ 140737488355328) := hrm
  have HTn : Hid (tn = T.length) := htn
  have HPk : Hid (Si w.heap.size w (.slice po kn pc) ks ∧ kn = ks.length) := hpk
  have HNext : Hid _ := hnext
  clear h0 hri hs ho hz hbs hrm hnext htn hpk
  unfold c15 Try.f8
  simp only [inLoop, inRound, dropSeq]
  refine seq_hid fun R21 hR21' => ?_
  have hR21 : R21 = (c21 Try.f8) := by rw [hR21'.out]; unfold c21 Try.f8; simp only [inLoop, inRound, dropSeq]
  clear hR21'
  by_cases hkp : (k : Int) < kn
  · by_cases htn : 0 < tn
    · have hkx : k < ks.length := by have := HPk.out.2; omega
      obtain ⟨c, hc⟩ : ∃ c, ks[k]? = some c := ⟨_, List.getElem?_eq_getElem hkx⟩
      obtain ⟨adp, hixp, habp, hacp⟩ := (HPk.out.1.below HL0.out.fl.be (Nat.le_refl _)).at k c hc
      have htn0 : (0 : Int) < tn := by omega
      have htn' : decide ((0 : Int) < tn) = true := decide_eq_true htn0
      have hpr := pick_rng c tn htn0
      have hb1 := Int.lt_tmod_of_pos c htn0
      have hb2 := Int.tmod_lt_of_pos c htn0
      obtain ⟨C1, hC1⟩ : ∃ C1, Int.tmod c (tn : Int) = C1 := ⟨_, rfl⟩
      rw [hC1] at hpr hb1 hb2
      have hw2 : wrap64 (C1 + (tn : Int)) = C1 + tn := by
        have h1 := HTn.out
        have h2 := HRM.out
        unfold wrap64
        omega
      obtain ⟨C2, hC2⟩ : ∃ C2, C1 + (tn : Int) = C2 := ⟨_, rfl⟩
      rw [hC2] at hpr
      have hw3 : wrap64 (C1 + (tn : Int)) = C2 := hw2.trans hC2
      obtain ⟨I, hI⟩ : ∃ I, Int.tmod C2 (tn : Int) = I := ⟨_, rfl⟩
      rw [hI] at hpr
      obtain ⟨adt, t, htm, hixt, hact⟩ := HL0.out.pick I hpr.1 (by have := HTn.out; omega)
      have HCt : Hid (∀ j u, (pkC t)[j]? = some u → W0.cell? (adt.add j) = some u) := hact
      have hold := HRI.out.old t htm z.t
      obtain ⟨V, hV⟩ : ∃ V, vdI s t true = V := ⟨_, rfl⟩
      have HH : Hid (∀ u, Pm u q s → Calls Try.prog 29 #[.pointer (some ⟨q, 0, none⟩), .agg (pkC t).toArray, .int .u64 z.t, .bool true] u fun e w' => e = .returned (.tuple #[.int .i64 V, .agg (smL sm0).toArray]) ∧ Pm w' q s ∧ u.grownBy w' (some q)) := fun u hu => by
        have h := hear_any q s t z.t true u hu HOk.out.2.1 (HRI.out.ok t htm).1
        rw [hV, hold.2.1, hold.2.2] at h
        exact h
      rw [hV] at hold
      have v0 : (V == 0) = false := by simpa using hold.1
      obtain ⟨t', ht'⟩ : ∃ t', s.t = t' := ⟨_, rfl⟩
      obtain ⟨wt, hwt⟩ : ∃ b, decide (s.req ≠ 0) = b := ⟨_, rfl⟩
      have HT : Hid (∀ u, Pm u q s → Calls Try.prog 19 #[.pointer (some ⟨q, 0, none⟩)] u fun e w' => e = .returned (.agg (tdL t').toArray) ∧ Below u.heap.size u w') := fun u hu => by rw [← ht']; exact told_any q s u hu
      have HWt : Hid (∀ u, Pm u q s → Calls Try.prog 20 #[.pointer (some ⟨q, 0, none⟩)] u fun e w' => e = .returned (.bool wt) ∧ w' = u) := fun u hu => by rw [← hwt]; exact waits_any q s u hu
      clear hc hkx habp hpr hb1 hb2 hw2 hC2 htm hact hold hV ht' hwt
      go_upto_region 17 with (first
        | (refine step_ldat 44 _ rfl rfl adt (by rfl) (pkC t) _ Try.underlying44 rfl (by kernel_rfl) HCt.out ?_)
        | (refine step_rnewE (by rfl) _ _ rfl W0 (pkC pk0) (pkC t) (by rfl) (by rfl) (by rfl) HL0.out (by kernel_rfl) rfl (pkC_one _) ?_; intro w21 hl21; have HL21 : Hid _ := hl21; clear hl21))
      obtain ⟨b20, hb20⟩ : ∃ b, W0.heap.size = b := ⟨_, rfl⟩
      rw [hb20] at HL21 ⊢
      clear HL0 HCt hixt hixp hacp hw3 hC1 hI hb20
      go_upto_region 18 with (first
        | (go_at_call 19; refine (HT.out _ HL21.out.fl.pq).mono ?_; rintro e w22 ⟨rfl, hb22⟩; have HL22 : Hid _ := HL21.out.step hb22; clear hb22)
        | (go_at_call 20; refine (HWt.out _ HL22.out.fl.pq).mono ?_; rintro e wq ⟨rfl, hwq⟩; rw [hwq]; clear hwq)
        | (refine step_rnewE (by rfl) _ _ rfl w22 (tdL td0) (tdL t') (by rfl) (by rfl) (by rfl) HL22.out (by kernel_rfl) rfl (tdL_one _) ?_; intro w23 hl23; have HL23 : Hid _ := hl23; clear hl23))
      obtain ⟨b22, hb22⟩ : ∃ b, w22.heap.size = b := ⟨_, rfl⟩
      rw [hb22] at HL23 ⊢
      clear HL21 HL22 hb22
      have k13 : w23.cell? ⟨bs, 13, none⟩ = some (.int .u64 z.t) := HL23.out.cell bs (spC z) 46 (by simp) 13
      go_upto_region 19 with (first
        | (refine step_ldat 44 _ rfl rfl ⟨b20, 0, none⟩ (by rfl) (pkC t) _ Try.underlying44 rfl (by kernel_rfl) (HL23.out.at b20 (pkC t) 44 (by simp)) ?_)
        | (go_at_call 29; refine (HH.out _ HL23.out.fl.pq).mono ?_; rintro e w24 ⟨rfl, hp24, hg24⟩; have HL24 : Hid _ := HL23.out.hearQ hp24 hg24; clear hp24 hg24)
        | (refine step_rnewE (by rfl) _ _ rfl w24 (smL sm0) (smL sm0) (by rfl) (by rfl) (by rfl) HL24.out (by kernel_rfl) rfl (smL_one _) ?_; intro w25 hl25; have HL25 : Hid _ := hl25; clear hl25))
      obtain ⟨b24, hb24⟩ : ∃ b, w24.heap.size = b := ⟨_, rfl⟩
      rw [hb24] at HL25 ⊢
      clear HL23 HL24 hb24 k13 HH
      refine wp_region_grown (by kernel_rfl) (by kernel_rfl) ?_
      intro C hC hG
      have al : Hid (∀ u, C u → RL w u p q X Y M s s org org nm' A' (.slice tq tn tc) T [(b24, smL sm0, 48), (b22, tdL t', 60), (b20, pkC t, 44), (bs, spC z, 46)]) := fun u hu => HL25.out.step (hC u hu)
      have Z1 : Hid (∀ u, C u → Calls Try.prog 19 #[.pointer (some ⟨q, 0, none⟩)] u fun e w' => e = .returned (.agg (tdL t').toArray) ∧ C w') := fun u hu => (HT.out u (al.out u hu).fl.pq).mono fun e w' ⟨h1, h2⟩ => ⟨h1, hG u w' hu h2⟩
      have Z2 : Hid (∀ u, C u → Calls Try.prog 20 #[.pointer (some ⟨q, 0, none⟩)] u fun e w' => e = .returned (.bool wt) ∧ C w') := fun u hu => (HWt.out u (al.out u hu).fl.pq).mono fun e w' ⟨h1, h2⟩ => ⟨h1, by rw [h2]; exact hu⟩
      refine QW.out ?_
      repeat (first
        | (refine qa_ldW (by rfl) 48 _ rfl ⟨b24, 0, none⟩ (by rfl) (smL sm0) _ Try.underlying48 rfl (by kernel_rfl) (fun u hu => (al.out u hu).at b24 (smL sm0) 48 (by simp)) ?_; try go_simp)
        | (refine qa_ldW (by rfl) 60 _ rfl ⟨b22, 0, none⟩ (by rfl) (tdL t') _ Try.underlying60 rfl (by kernel_rfl) (fun u hu => (al.out u hu).at b22 (tdL t') 60 (by simp)) ?_; try go_simp)
        | (refine qa_valW (by rfl) ⟨_, fun u hu => ne_td t' _ _ _ _ rfl (by rfl) (by rfl) u, ?_⟩; try go_simp)
        | (refine qa_valW (by rfl) ⟨_, fun u hu => ne_sm sm0 _ _ _ _ rfl (by rfl) (by rfl) u, ?_⟩; try go_simp)
        | (refine qa_valW (by rfl) ?_; apply Exists.intro; refine ⟨fun u hu => ?_, ?_⟩; (go_simp; exact rfl); try go_simp)
        | (refine qa_callW (by rfl) 19 _ _ ?_ (fun u hu => Z1.out u hu) ?_; (focus (intro u hu; go_simp; first | done | exact rfl)); try go_simp)
        | (refine qa_callW (by rfl) 20 _ _ ?_ (fun u hu => Z2.out u hu) ?_; (focus (intro u hu; go_simp; first | done | exact rfl)); try go_simp))
      refine qw_nil ?_
      intro u hu
      have HL26 : Hid (RL w u p q X Y M s s org org nm' A' (.slice tq tn tc) T [(bs, spC z, 46)]) := (HL25.out.step hu).sub (fun b hb => by simp at hb; subst hb; simp)
      clear al Z1 Z2 hC hG hu HL25 HT HWt
      go_wp2_with fail
      try rw [hR21]
      exact HNext.out u _ _ _ _ _ _ _ _ _ _ _ _ _ _ _ _ _ _ _ _ _ _ _ _ _ _ _ _ _ _ _ _ _ _ _ _ _ _ _ _ _ _ _ _ _ _ _ _ _ _ _ _ _ _ _ _ _ _ _ _ _ _ _ _ _ _ _ _ _ _ _ _ _ _ _ _ _ _ _ _ _ _ _ _ _ _ _ _ _ _ _ _ _ _ _ _ _ _ _ _ _ _ _ _ _ _ _ _ _ _ _ _ _ _ _ _ _ _ _ _ _ _ _ _ _ _ _ _ _ _ _ _ _ _ _ _ _ _ _ _ _ _ _ _ _ _ _ _ _ _ _ _ _ _ _ _ _ _ _ _ _ _ _ _ _ _ _ _ _ _ _ _ _ _ _ _ _ _ _ HL26.out
    · have htn' : decide ((0 : Int) < tn) = false := decide_eq_false (by omega)
      go_wp2_with fail
      try rw [hR21]
      exact HNext.out W0 _ _ _ _ _ _ _ _ _ _ _ _ _ _ _ _ _ _ _ _ _ _ _ _ _ _ _ _ _ _ _ _ _ _ _ _ _ _ _ _ _ _ _ _ _ _ _ _ _ _ _ _ _ _ _ _ _ _ _ _ _ _ _ _ _ _ _ _ _ _ _ _ _ _ _ _ _ _ _ _ _ _ _ _ _ _ _ _ _ _ _ _ _ _ _ _ _ _ _ _ _ _ _ _ _ _ _ _ _ _ _ _ _ _ _ _ _ _ _ _ _ _ _ _ _ _ _ _ _ _ _ _ _ _ _ _ _ _ _ _ _ _ _ _ _ _ _ _ _ _ _ _ _ _ _ _ _ _ _ _ _ _ _ _ _ _ _ _ _ _ _ _ _ _ _ _ _ _ _ HL0.out
  · go_wp2_with fail
    try rw [hR21]
    exact HNext.out W0 _ _ _ _ _ _ _ _ _ _ _ _ _ _ _ _ _ _ _ _ _ _ _ _ _ _ _ _ _ _ _ _ _ _ _ _ _ _ _ _ _ _ _ _ _ _ _ _ _ _ _ _ _ _ _ _ _ _ _ _ _ _ _ _ _ _ _ _ _ _ _ _ _ _ _ _ _ _ _ _ _ _ _ _ _ _ _ _ _ _ _ _ _ _ _ _ _ _ _ _ _ _ _ _ _ _ _ _ _ _ _ _ _ _ _ _ _ _ _ _ _ _ _ _ _ _ _ _ _ _ _ _ _ _ _ _ _ _ _ _ _ _ _ _ _ _ _ _ _ _ _ _ _ _ _ _ _ _ _ _ _ _ _ _ _ _ _ _ _ _ _ _ _ _ _ _ _ _ _ HL0.out
end Go.Proofs.Ytlggademcmkihaa
