/- PeerReplayed: both do the step. -/
import Derived.Test.YtlggademcmkihaaIT
namespace Go.Proofs.Ytlggademcmkihaa
open Go Go.RowKit Go.Sort Go.Maps
def inLoop : Code → Option Code
  | .loop b => some b
  | .seq a b => match inLoop a with
    | some c => some c
    | none => inLoop b
  | .block _ b => inLoop b
  | _ => none
def inRound : Code → Code
  | .seq _ (.seq _ (.seq (.block _ x) _)) => x
  | c => c
def c15 (f : Go.Func) : Code := match f.body with
  | some c => (match inLoop c with
    | some b => dropSeq 3 (inRound b)
    | none => .skip)
  | none => .skip
def c21 (f : Go.Func) : Code := match f.body with
  | some c => (match inLoop c with
    | some b => dropSeq 4 (inRound b)
    | none => .skip)
  | none => .skip
set_option linter.unusedVariables false in
set_option maxRecDepth 20000 in
set_option maxHeartbeats 20000000 in
theorem tail21 (a : As) (own : Int) (w W0 : World) (p q X Y M bs k n kn : Nat) (ao po tq : Option Addr) (cap pc tn tc : Nat) (z : Stp) (s : Ps) (org X0 : Int) (A' : Int → Bool) (nm' : Nat) (T : List Pk) (QB : Exit → Act → World → Prop) (v8 v17 v18 v19 v20 v21 v22 v23 v24 v25 v26 v27 v28 v29 v42 v43 v44 v45 v46 v47 v48 v49 v50 v51 v52 v53 v54 v55 v56 v57 v58 v59 v60 v61 v62 v63 v64 v65 v66 v67 v68 v69 v70 v71 v72 v73 v74 v75 v76 v77 v78 v79 v80 v81 v82 v83 v84 v85 v86 v87 v88 v89 v90 v91 v92 v93 v94 v95 v96 v97 v98 v99 v100 v101 v102 v103 v104 v105 v106 v107 v108 v109 v110 v111 v112 v113 v114 v115 v116 v117 v118 v119 v120 v121 v122 v123 v124 v125 v126 v127 v128 v129 v130 v131 v132 v133 v134 v135 v136 v137 v138 v139 v140 v141 v142 v143 v144 v145 v146 v147 v148 v149 v150 v151 v152 v153 v154 v155 v156 v157 v158 v159 v160 v161 v162 v163 v164 v165 v166 v167 v168 v169 v170 v171 v172 v173 v174 v175 v176 v177 v178 v179 v180 v181 v182 v183 v184 v185 v186 v187 v188 v189 v190 v191 v192 v193 v194 v195 v196 v197 v198 v199 v200 v201 v202 v203 v204 v205 v206 : Value) (hs : okS s) (ho : U64 org) (hz : okX z) (hbs : w.heap.size ≤ bs) (hrm : (T.length + 1) * 168 ≤ 140737488355328) (h0 : RL w W0 p q X Y M s s org org nm' A' (.slice tq tn tc) T [(bs, spC z, 46)]) (hend : ∀ (W1 : World) (tv : Value) (y8 y17 y18 y19 y20 y21 y22 y23 y24 y25 y26 y27 y28 y29 y42 y43 y44 y45 y46 y47 y48 y49 y50 y51 y52 y53 y54 y55 y56 y57 y58 y59 y60 y61 y62 y63 y64 y65 y66 y67 y68 y69 y70 y71 y72 y73 y74 y75 y76 y77 y78 y79 y80 y81 y82 y83 y84 y85 y86 y87 y88 y89 y90 y91 y92 y93 y94 y95 y96 y97 y98 y99 y100 y101 y102 y103 y104 y105 y106 y107 y108 y109 y110 y111 y112 y113 y114 y115 y116 y117 y118 y119 y120 y121 y122 y123 y124 y125 y126 y127 y128 y129 y130 y131 y132 y133 y134 y135 y136 y137 y138 y139 y140 y141 y142 y143 y144 y145 y146 y147 y148 y149 y150 y151 y152 y153 y154 y155 y156 y157 y158 y159 y160 y161 y162 y163 y164 y165 y166 y167 y168 y169 y170 y171 y172 y173 y174 y175 y176 y177 y178 y179 y180 y181 y182 y183 y184 y185 y186 y187 y188 y189 y190 y191 y192 y193 y194 y195 y196 y197 y198 y199 y200 y201 y202 y203 y204 y205 y206 : Value), RL w W1 p q X Y M (dsS s z org) (dsS s z org) (dsO s z org) (dsO s z org) nm' A' tv (dsT s z org T) [] → QB .normal { tmps := #[.agg (asL a).toArray, .int .u32 own, .slice ao n cap, .slice po kn pc, .pointer (some ⟨w.heap.size, 0, none⟩), undef, undef, undef, y8, .pointer (some ⟨p, 0, none⟩), .pointer (some ⟨q, 0, none⟩), .pointer (some ⟨X, 0, none⟩), .pointer (some ⟨Y, 0, none⟩), tv, .map (some M), .int .i64 (k : Int), .pointer (some ⟨bs, 0, none⟩), y17, y18, y19, y20, y21, y22, y23, y24, y25, y26, y27, y28, y29, .bool true, .bool false, .agg #[.int .i64 a.kind, .int .u32 a.addr, .int .i64 a.key, .int .i64 a.minp, .int .i64 a.maxp, .bool a.burst, .bool a.ib, .bool a.pref, .int .i64 a.ttl, .bool a.pulse, .int .i64 a.fudge, .int .i64 a.str], .int .u32 own, .pointer (some ⟨p, 0, none⟩), .agg #[.int .i64 a.kind, .int .u32 a.addr, .int .i64 a.key, .int .i64 a.minp, .int .i64 a.maxp, .bool a.burst, .bool a.ib, .bool a.pref, .int .i64 a.ttl, .bool a.pulse, .int .i64 a.fudge, .int .i64 a.str], .int .u32 own, .pointer (some ⟨q, 0, none⟩), .map (some M), .slice ao n cap, .int .i64 (n : Int), .int .i64 (k : Int), y42, y43, y44, y45, y46, y47, y48, y49, y50, y51, y52, y53, y54, y55, y56, y57, y58, y59, y60, y61, y62, y63, y64, y65, y66, y67, y68, y69, y70, y71, y72, y73, y74, y75, y76, y77, y78, y79, y80, y81, y82, y83, y84, y85, y86, y87, y88, y89, y90, y91, y92, y93, y94, y95, y96, y97, y98, y99, y100, y101, y102, y103, y104, y105, y106, y107, y108, y109, y110, y111, y112, y113, y114, y115, y116, y117, y118, y119, y120, y121, y122, y123, y124, y125, y126, y127, y128, y129, y130, y131, y132, y133, y134, y135, y136, y137, y138, y139, y140, y141, y142, y143, y144, y145, y146, y147, y148, y149, y150, y151, y152, y153, y154, y155, y156, y157, y158, y159, y160, y161, y162, y163, y164, y165, y166, y167, y168, y169, y170, y171, y172, y173, y174, y175, y176, y177, y178, y179, y180, y181, y182, y183, y184, y185, y186, y187, y188, y189, y190, y191, y192, y193, y194, y195, y196, y197, y198, y199, y200, y201, y202, y203, y204, y205, y206], defers := [] } W1) : Code.wp Try.prog (c21 Try.f8) QB { tmps := #[.agg (asL a).toArray, .int .u32 own, .slice ao n cap, .slice po kn pc, .pointer (some ⟨w.heap.size, 0, none⟩), undef, undef, undef, v8, .pointer (some ⟨p, 0, none⟩), .pointer (some ⟨q, 0, none⟩), .pointer (some ⟨X, 0, none⟩), .pointer (some ⟨Y, 0, none⟩), .slice tq tn tc, .map (some M), .int .i64 (k : Int), .pointer (some ⟨bs, 0, none⟩), v17, v18, v19, v20, v21, v22, v23, v24, v25, v26, v27, v28, v29, .bool true, .bool false, .agg #[.int .i64 a.kind, .int .u32 a.addr, .int .i64 a.key, .int .i64 a.minp, .int .i64 a.maxp, .bool a.burst, .bool a.ib, .bool a.pref, .int .i64 a.ttl, .bool a.pulse, .int .i64 a.fudge, .int .i64 a.str], .int .u32 own, .pointer (some ⟨p, 0, none⟩), .agg #[.int .i64 a.kind, .int .u32 a.addr, .int .i64 a.key, .int .i64 a.minp, .int .i64 a.maxp, .bool a.burst, .bool a.ib, .bool a.pref, .int .i64 a.ttl, .bool a.pulse, .int .i64 a.fudge, .int .i64 a.str], .int .u32 own, .pointer (some ⟨q, 0, none⟩), .map (some M), .slice ao n cap, .int .i64 (n : Int), .int .i64 (k : Int), v42, v43, v44, v45, v46, v47, v48, v49, v50, v51, v52, v53, v54, v55, v56, v57, v58, v59, v60, v61, v62, v63, v64, v65, v66, v67, v68, v69, v70, v71, v72, v73, v74, v75, v76, v77, v78, v79, v80, v81, v82, v83, v84, v85, v86, v87, v88, v89, v90, v91, v92, v93, v94, v95, v96, v97, v98, v99, v100, v101, v102, v103, v104, v105, v106, v107, v108, v109, v110, v111, v112, v113, v114, v115, v116, v117, v118, v119, v120, v121, v122, v123, v124, v125, v126, v127, v128, v129, v130, v131, v132, v133, v134, v135, v136, v137, v138, v139, v140, v141, v142, v143, v144, v145, v146, v147, v148, v149, v150, v151, v152, v153, v154, v155, v156, v157, v158, v159, v160, v161, v162, v163, v164, v165, v166, v167, v168, v169, v170, v171, v172, v173, v174, v175, v176, v177, v178, v179, v180, v181, v182, v183, v184, v185, v186, v187, v188, v189, v190, v191, v192, v193, v194, v195, v196, v197, v198, v199, v200, v201, v202, v203, v204, v205, v206], defers := [] } W0 := by
  have HL0 : Hid (RL w W0 p q X Y M s s org org nm' A' (.slice tq tn tc) T [(bs, spC z, 46)]) := h0
  have HOk : Hid (True ∧ okS s ∧ U64 org) := ⟨trivial, hs, ho⟩
  have HOz : Hid (okX z) := hz
  have HBs : Hid (w.heap.size ≤ bs) := hbs
  have HRM : Hid ((T.length + 1) * 168 ≤ 140737488355328) := hrm
  obtain ⟨s', hs'⟩ : ∃ s', dsS s z org = s' := ⟨_, rfl⟩
  obtain ⟨T', hT'⟩ : ∃ T', dsT s z org T = T' := ⟨_, rfl⟩
  obtain ⟨org', horg'⟩ : ∃ o, dsO s z org = o := ⟨_, rfl⟩
  rw [hs', hT', horg'] at hend
  have HEnd : Hid _ := hend
  clear h0 hs ho hz hbs hrm hend
  obtain ⟨pk, hpk⟩ : ∃ pk, dsP s z = pk := ⟨_, rfl⟩
  obtain ⟨bo, hbo⟩ : ∃ bo, dsB s z = bo := ⟨_, rfl⟩
  obtain ⟨V, hV⟩ : ∃ V, dsV s z org = V := ⟨_, rfl⟩
  obtain ⟨mm, hmm⟩ : ∃ mm, dsM s z org = mm := ⟨_, rfl⟩
  have HDo : Hid (∀ (r o : Nat) (u : World), Pm u r s → Bk o u #[.int .u64 org] 23 → r ≠ o → Calls Try.prog 13 #[.pointer (some ⟨r, 0, none⟩), .agg (spC z).toArray, .pointer (some ⟨o, 0, none⟩)] u fun e w' => e = .returned (.tuple #[.agg (pkC pk).toArray, .bool bo, .int .i64 V, .agg (smL mm).toArray]) ∧ Pm w' r s' ∧ Bk o w' #[.int .u64 org'] 23 ∧ G2 r o u w') := fun r o u h1 h2 h3 => by
    rw [← hpk, ← hbo, ← hV, ← hmm, ← hs', ← horg']
    exact does_any r o s z org u h1 h2 h3 HOk.out.2.1 HOz.out HOk.out.2.2
  have HE : Hid (okS s' ∧ U64 org') := by
    rw [← hs', ← horg']
    exact ⟨HOk.out.2.1.ds z org, dsO_u64 HOz.out HOk.out.2.2⟩
  have HTT : Hid (dsT s z org T = T' ∧ dsV s z org = V ∧ dsO s z org = org') := ⟨hT', hV, horg'⟩
  clear hpk hbo hV hmm hs' horg' hT'
  unfold c21 Try.f8
  simp only [inLoop, inRound, dropSeq]
  refine seq_hid fun R22 hR22 => ?_
  go_wp2_with (first
    | (refine step_ldat 46 _ rfl rfl ⟨bs, 0, none⟩ (by rfl) (spC z) _ Try.underlying46 rfl (by kernel_rfl) (HL0.out.at bs (spC z) 46 (by simp)) ?_)
    | (go_at_call 13; refine (HDo.out p X _ HL0.out.fl.pp HL0.out.fl.bx HL0.out.fl.ne.2.1).mono ?_; rintro e w8 ⟨rfl, hp8, ho8, hg8⟩; have HL8 : Hid _ := HL0.out.doesP hp8 ho8 hg8; have HZ8 : Hid _ := HL8.out.two (pkC pk0) (smL sm0) 44 48; have HB8 : Hid (w.heap.size ≤ w8.heap.size ∧ bs < w8.heap.size) := ⟨HL8.out.fl.be.size, (HL8.out.fl.bl (bs, spC z, 46) (by simp)).1.lt⟩; clear hp8 ho8 hg8)
    | (refine step_rown (by rfl) _ _ rfl w8.heap.size (pkC pk) (by rfl) (by rfl) [(w8.heap.size + 1, smL sm0, 48)] _ HZ8.out ?_ HB8.out.1 (by kernel_rfl) rfl (pkC_one _) ?_; (have l1 := HB8.out; intro b hb; simp at hb; rcases hb with rfl | rfl <;> (simp; try omega)); intro w9 hl9; have HL9 : Hid _ := hl9; clear hl9)
    | (refine step_rown (by rfl) _ _ rfl (w8.heap.size + 1) (smL mm) (by rfl) (by rfl) [] _ HL9.out ?_ (Nat.le_succ_of_le HB8.out.1) (by kernel_rfl) rfl (smL_one _) ?_; (have l1 := HB8.out; intro b hb; simp at hb; rcases hb with rfl | rfl <;> (simp; try omega)); intro w10 hl10; have HL10 : Hid _ := hl10; clear hl10))
  obtain ⟨b8, hb8⟩ : ∃ b, w8.heap.size = b := ⟨_, rfl⟩
  rw [hb8] at HL10 HB8 ⊢
  clear HL8 HZ8 HL9 HL0 hb8
  rw [hR22.out]
  clear hR22
  refine seq_hid fun R23 hR23 => ?_
  go_wp2_with (first
    | (refine step_ldat 46 _ rfl rfl ⟨bs, 0, none⟩ (by rfl) (spC z) _ Try.underlying46 rfl (by kernel_rfl) (HL10.out.at bs (spC z) 46 (by simp)) ?_)
    | (go_at_call 13; refine (HDo.out q Y _ HL10.out.fl.pq HL10.out.fl.byy HL10.out.fl.ne.2.2.2.2.1).mono ?_; rintro e w11 ⟨rfl, hp11, ho11, hg11⟩; have HL11 : Hid _ := HL10.out.doesQ hp11 ho11 hg11; have HZ11 : Hid _ := HL11.out.two (pkC pk0) (smL sm0) 44 48; have HB11 : Hid (w.heap.size ≤ w11.heap.size ∧ bs < w11.heap.size ∧ b8 + 1 < w11.heap.size) := ⟨HL11.out.fl.be.size, (HL11.out.fl.bl (bs, spC z, 46) (by simp)).1.lt, (HL11.out.fl.bl (b8 + 1, smL mm, 48) (by simp)).1.lt⟩; clear hp11 ho11 hg11)
    | (refine step_rown (by rfl) _ _ rfl w11.heap.size (pkC pk) (by rfl) (by rfl) [(w11.heap.size + 1, smL sm0, 48)] _ HZ11.out ?_ HB11.out.1 (by kernel_rfl) rfl (pkC_one _) ?_; (have l1 := HB11.out; intro b hb; simp at hb; rcases hb with rfl | rfl | rfl | rfl <;> (simp; try omega)); intro w12 hl12; have HL12 : Hid _ := hl12; clear hl12)
    | (refine step_rown (by rfl) _ _ rfl (w11.heap.size + 1) (smL mm) (by rfl) (by rfl) [] _ HL12.out ?_ (Nat.le_succ_of_le HB11.out.1) (by kernel_rfl) rfl (smL_one _) ?_; (have l1 := HB11.out; intro b hb; simp at hb; rcases hb with rfl | rfl | rfl | rfl <;> (simp; try omega)); intro w13 hl13; have HL13 : Hid _ := hl13; clear hl13))
  obtain ⟨b11, hb11⟩ : ∃ b, w11.heap.size = b := ⟨_, rfl⟩
  rw [hb11] at HL13 HB11 ⊢
  clear HL11 HZ11 HL12 HL10 hb11
  clear HDo
  obtain ⟨t', ht'⟩ : ∃ t', s'.t = t' := ⟨_, rfl⟩
  obtain ⟨wt, hwt⟩ : ∃ b, decide (s'.req ≠ 0) = b := ⟨_, rfl⟩
  have HT : Hid (∀ r u, Pm u r s' → Calls Try.prog 19 #[.pointer (some ⟨r, 0, none⟩)] u fun e w' => e = .returned (.agg (tdL t').toArray) ∧ Below u.heap.size u w') := fun r u hu => by rw [← ht']; exact told_any r s' u hu
  have HWt : Hid (∀ r u, Pm u r s' → Calls Try.prog 20 #[.pointer (some ⟨r, 0, none⟩)] u fun e w' => e = .returned (.bool wt) ∧ w' = u) := fun r u hu => by rw [← hwt]; exact waits_any r s' u hu
  clear ht' hwt
  rw [hR23.out]
  clear hR23
  refine seq_hid fun R25 hR25 => ?_
  go_wp2_with (first
    | (refine step_ldatW (by rfl) 44 _ rfl ⟨b8, 0, none⟩ (by rfl) (pkC pk) _ Try.underlying44 rfl (by kernel_rfl) (HL13.out.at b8 (pkC pk) 44 (by simp)) ?_)
    | (refine step_ldatW (by rfl) 44 _ rfl ⟨b11, 0, none⟩ (by rfl) (pkC pk) _ Try.underlying44 rfl (by kernel_rfl) (HL13.out.at b11 (pkC pk) 44 (by simp)) ?_)
    | (go_at_call 15; refine (same_any pk _).mono ?_; rintro e w14 ⟨rfl, hb14⟩; have HL14 : Hid _ := HL13.out.step hb14; clear hb14)
    | (refine step_ldatW (by rfl) 48 _ rfl ⟨b8 + 1, 0, none⟩ (by rfl) (smL mm) _ Try.underlying48 rfl (by kernel_rfl) (HL14.out.at (b8 + 1) (smL mm) 48 (by simp)) ?_)
    | (refine step_ldatW (by rfl) 48 _ rfl ⟨b11 + 1, 0, none⟩ (by rfl) (smL mm) _ Try.underlying48 rfl (by kernel_rfl) (HL14.out.at (b11 + 1) (smL mm) 48 (by simp)) ?_)
    | (refine step_valW (by rfl) _ (ne_sm mm _ _ _ _ rfl (by rfl) (by rfl) _) ?_)
    | (refine step_valW (by rfl) _ (ne_td t' _ _ _ _ rfl (by rfl) (by rfl) _) ?_)
    | (go_at_call 19; refine (HT.out q _ HL15.out.fl.pq).mono ?_; rintro e w16 ⟨rfl, hb16⟩; have HL16 : Hid _ := HL15.out.step hb16; clear hb16)
    | (go_at_call 19; refine (HT.out p _ HL14.out.fl.pp).mono ?_; rintro e w15 ⟨rfl, hb15⟩; have HL15 : Hid _ := HL14.out.step hb15; clear hb15)
    | (go_at_call 20; refine (HWt.out _ _ ?_).mono ?_; (first | exact HL16.out.fl.pp | exact HL16.out.fl.pq); rintro e wq ⟨rfl, hwq⟩; rw [hwq]; clear hwq))
  have HLa : Hid (RL w w16 p q X Y M s' s' org' org' nm' A' (.slice tq tn tc) T [(bs, spC z, 46)]) := HL16.out.sub (fun b hb => by simp at hb; subst hb; simp)
  clear HL13 HL14 HL15 HL16 HT HWt HB8 HB11
  rw [hR25.out]
  clear hR25
  refine seq_hid fun R27 hR27 => ?_
  have kk : w16.cell? ⟨bs, 0, none⟩ = some (.int .i64 z.k) := HLa.out.cell bs (spC z) 46 (by simp) 0
  by_cases h3 : z.k = 3
  · rw [h3] at kk
    have kf : ∀ j, w16.frozen? ⟨bs, j, none⟩ = false := fun j => (HLa.out.fl.bl (bs, spC z, 46) (by simp)).1.frozen j
    have k24 : w16.cell? ⟨bs, 24, none⟩ = some (.int .u64 z.q.org) := HLa.out.cell bs (spC z) 46 (by simp) 24
    have cx : w16.cell? ⟨X, 0, none⟩ = some (.int .u64 org') := HLa.out.fl.bx.cell 0
    go_wp2_with fail
    have HX : Hid (RL w (w16.setCell ⟨bs, 24, none⟩ (.int .u64 org')) p q X Y M s' s' org' org' nm' A' (.slice tq tn tc) T [(bs, spC { z with q := { z.q with org := org' } }, 46)]) := by
      refine RL.own (L := []) (L' := []) (g := bs) (cs := spC z) HLa.out (fun b hb => by cases hb) HBs.out (grownBy_set _ _ _) ?_
      exact Bk.set (HLa.out.fl.bl (bs, spC z, 46) (by simp)).1 (j := 24) (.int .u64 org')
    generalize w16.setCell ⟨bs, 24, none⟩ (.int .u64 org') = w17 at HX ⊢
    clear kf k24 cx kk HLa
    rw [hR27.out]
    clear hR27
    have kk : w17.cell? ⟨bs, 0, none⟩ = some (.int .i64 3) := by rw [← h3]; exact HX.out.cell bs (spC { z with q := { z.q with org := org' } }) 46 (by simp) 0
    by_cases hv0 : V = 0
    · have hTQ : T ++ [{ z.q with org := org' }] = T' := by
        rw [← HTT.out.1]
        unfold dsT dsQ
        rw [if_pos ⟨.inr h3, by rw [HTT.out.2.1]; exact hv0⟩]
        have : org' = org := by rw [← HTT.out.2.2]; unfold dsO; rw [if_neg (fun h => by rw [h3] at h; exact absurd h.1 (by decide))]
        rw [if_pos h3, this]
      have hv0' : (V == 0) = true := by simpa using hv0
      obtain ⟨Qq, hQq⟩ : ∃ Qq, { z.q with org := org' } = Qq := ⟨_, rfl⟩
      have HQq : Hid (∀ j v, (pkC Qq)[j]? = some v → w17.cell? ((⟨bs, 14, none⟩ : Addr).add j) = some v) := by
        rw [← hQq]
        exact Xb.pk (x := { z with q := { z.q with org := org' } }) (HX.out.fl.bl (bs, spC { z with q := { z.q with org := org' } }, 46) (by simp)).1
      rw [hQq] at hTQ
      obtain ⟨v19, w19, hr19, hl19⟩ := HX.out.app Qq HRM.out
      have HL19 : Hid (RL w w19 p q X Y M s' s' org' org' nm' A' v19 T' []) := by
        rw [← hTQ]
        exact hl19.sub (fun b hb => by cases hb)
      clear hQq hl19 hTQ
      go_wp2_with (first
        | (refine step_ldat 44 _ rfl rfl ⟨bs, 14, none⟩ (by rfl) (pkC Qq) _ Try.underlying44 rfl (by kernel_rfl) HQq.out ?_)
        | (refine step_buildP rfl _ rfl Qq (by rfl) ?_)
        | (refine wpList_appP rfl _ _ rfl rfl _ _ _ (by rfl) (by rfl) hr19 ?_; clear hr19))
      exact HEnd.out _ _ _ _ _ _ _ _ _ _ _ _ _ _ _ _ _ _ _ _ _ _ _ _ _ _ _ _ _ _ _ _ _ _ _ _ _ _ _ _ _ _ _ _ _ _ _ _ _ _ _ _ _ _ _ _ _ _ _ _ _ _ _ _ _ _ _ _ _ _ _ _ _ _ _ _ _ _ _ _ _ _ _ _ _ _ _ _ _ _ _ _ _ _ _ _ _ _ _ _ _ _ _ _ _ _ _ _ _ _ _ _ _ _ _ _ _ _ _ _ _ _ _ _ _ _ _ _ _ _ _ _ _ _ _ _ _ _ _ _ _ _ _ _ _ _ _ _ _ _ _ _ _ _ _ _ _ _ _ _ _ _ _ _ _ _ _ _ _ _ _ _ _ _ _ _ _ _ _ _ _ HL19.out
    · have hTe : T' = T := by
        rw [← HTT.out.1]
        unfold dsT
        rw [if_neg (fun h => hv0 (by rw [← HTT.out.2.1]; exact h.2))]
      have hv0' : (V == 0) = false := by simpa using hv0
      have HL19 : Hid (RL w w17 p q X Y M s' s' org' org' nm' A' (.slice tq tn tc) T' []) := by
        rw [hTe]
        exact HX.out.sub (fun b hb => by cases hb)
      clear hTe
      go_wp2_with fail
      exact HEnd.out _ _ _ _ _ _ _ _ _ _ _ _ _ _ _ _ _ _ _ _ _ _ _ _ _ _ _ _ _ _ _ _ _ _ _ _ _ _ _ _ _ _ _ _ _ _ _ _ _ _ _ _ _ _ _ _ _ _ _ _ _ _ _ _ _ _ _ _ _ _ _ _ _ _ _ _ _ _ _ _ _ _ _ _ _ _ _ _ _ _ _ _ _ _ _ _ _ _ _ _ _ _ _ _ _ _ _ _ _ _ _ _ _ _ _ _ _ _ _ _ _ _ _ _ _ _ _ _ _ _ _ _ _ _ _ _ _ _ _ _ _ _ _ _ _ _ _ _ _ _ _ _ _ _ _ _ _ _ _ _ _ _ _ _ _ _ _ _ _ _ _ _ _ _ _ _ _ _ _ _ _ HL19.out
  · by_cases h1 : z.k = 1
    · rw [h1] at kk
      go_wp2_with fail
      rw [hR27.out]
      clear hR27
      by_cases hv0 : V = 0
      · have hTQ : T ++ [z.q] = T' := by
          rw [← HTT.out.1]
          unfold dsT dsQ
          rw [if_pos ⟨.inl h1, by rw [HTT.out.2.1]; exact hv0⟩]
          rw [if_neg h3]
        have hv0' : (V == 0) = true := by simpa using hv0
        obtain ⟨Qq, hQq⟩ : ∃ Qq, z.q = Qq := ⟨_, rfl⟩
        have HQq : Hid (∀ j v, (pkC Qq)[j]? = some v → w16.cell? ((⟨bs, 14, none⟩ : Addr).add j) = some v) := by
          rw [← hQq]
          exact Xb.pk (x := z) (HLa.out.fl.bl (bs, spC z, 46) (by simp)).1
        rw [hQq] at hTQ
        obtain ⟨v19, w19, hr19, hl19⟩ := HLa.out.app Qq HRM.out
        have HL19 : Hid (RL w w19 p q X Y M s' s' org' org' nm' A' v19 T' []) := by
          rw [← hTQ]
          exact hl19.sub (fun b hb => by cases hb)
        clear hQq hl19 hTQ
        go_wp2_with (first
          | (refine step_ldat 44 _ rfl rfl ⟨bs, 14, none⟩ (by rfl) (pkC Qq) _ Try.underlying44 rfl (by kernel_rfl) HQq.out ?_)
          | (refine step_buildP rfl _ rfl Qq (by rfl) ?_)
          | (refine wpList_appP rfl _ _ rfl rfl _ _ _ (by rfl) (by rfl) hr19 ?_; clear hr19))
        exact HEnd.out _ _ _ _ _ _ _ _ _ _ _ _ _ _ _ _ _ _ _ _ _ _ _ _ _ _ _ _ _ _ _ _ _ _ _ _ _ _ _ _ _ _ _ _ _ _ _ _ _ _ _ _ _ _ _ _ _ _ _ _ _ _ _ _ _ _ _ _ _ _ _ _ _ _ _ _ _ _ _ _ _ _ _ _ _ _ _ _ _ _ _ _ _ _ _ _ _ _ _ _ _ _ _ _ _ _ _ _ _ _ _ _ _ _ _ _ _ _ _ _ _ _ _ _ _ _ _ _ _ _ _ _ _ _ _ _ _ _ _ _ _ _ _ _ _ _ _ _ _ _ _ _ _ _ _ _ _ _ _ _ _ _ _ _ _ _ _ _ _ _ _ _ _ _ _ _ _ _ _ _ _ HL19.out
      · have hTe : T' = T := by
          rw [← HTT.out.1]
          unfold dsT
          rw [if_neg (fun h => hv0 (by rw [← HTT.out.2.1]; exact h.2))]
        have hv0' : (V == 0) = false := by simpa using hv0
        have HL19 : Hid (RL w w16 p q X Y M s' s' org' org' nm' A' (.slice tq tn tc) T' []) := by
          rw [hTe]
          exact HLa.out.sub (fun b hb => by cases hb)
        clear hTe
        go_wp2_with fail
        exact HEnd.out _ _ _ _ _ _ _ _ _ _ _ _ _ _ _ _ _ _ _ _ _ _ _ _ _ _ _ _ _ _ _ _ _ _ _ _ _ _ _ _ _ _ _ _ _ _ _ _ _ _ _ _ _ _ _ _ _ _ _ _ _ _ _ _ _ _ _ _ _ _ _ _ _ _ _ _ _ _ _ _ _ _ _ _ _ _ _ _ _ _ _ _ _ _ _ _ _ _ _ _ _ _ _ _ _ _ _ _ _ _ _ _ _ _ _ _ _ _ _ _ _ _ _ _ _ _ _ _ _ _ _ _ _ _ _ _ _ _ _ _ _ _ _ _ _ _ _ _ _ _ _ _ _ _ _ _ _ _ _ _ _ _ _ _ _ _ _ _ _ _ _ _ _ _ _ _ _ _ _ _ _ HL19.out
    · have h1' : (z.k == 1) = false := by simpa using h1
      have h3' : (z.k == 3) = false := by simpa using h3
      have hTe : T' = T := by
        rw [← HTT.out.1]
        unfold dsT
        rw [if_neg (fun h => by rcases h.1 with h | h; exact h1 h; exact h3 h)]
      go_wp2_with fail
      rw [hR27.out]
      clear hR27
      have HL19 : Hid (RL w w16 p q X Y M s' s' org' org' nm' A' (.slice tq tn tc) T' []) := by
        rw [hTe]
        exact HLa.out.sub (fun b hb => by cases hb)
      clear hTe
      go_wp2_with fail
      exact HEnd.out _ _ _ _ _ _ _ _ _ _ _ _ _ _ _ _ _ _ _ _ _ _ _ _ _ _ _ _ _ _ _ _ _ _ _ _ _ _ _ _ _ _ _ _ _ _ _ _ _ _ _ _ _ _ _ _ _ _ _ _ _ _ _ _ _ _ _ _ _ _ _ _ _ _ _ _ _ _ _ _ _ _ _ _ _ _ _ _ _ _ _ _ _ _ _ _ _ _ _ _ _ _ _ _ _ _ _ _ _ _ _ _ _ _ _ _ _ _ _ _ _ _ _ _ _ _ _ _ _ _ _ _ _ _ _ _ _ _ _ _ _ _ _ _ _ _ _ _ _ _ _ _ _ _ _ _ _ _ _ _ _ _ _ _ _ _ _ _ _ _ _ _ _ _ _ _ _ _ _ _ _ HL19.out
end Go.Proofs.Ytlggademcmkihaa
