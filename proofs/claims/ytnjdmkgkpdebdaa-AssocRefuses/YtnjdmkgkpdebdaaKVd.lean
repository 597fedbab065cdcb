/- assoc: AssocRefuses, mobilised. -/
import Derived.Test.YtnjdmkgkpdebdaaKVb
namespace Go.Proofs.Ytnjdmkgkpdebdaa
open Go Go.RowKit Go.Sort
set_option linter.unusedVariables false
set_option maxRecDepth 40000 in
set_option maxHeartbeats 4000000 in
theorem rf_fresh {c : Code} (hcode : c = (rfWays Try.f6)) {v0 v1 v2 v4 v7 v8 v10 v11 v12 v13 v14 v16 v17 v18 v24 v25 v26 v27 v28 v29 v30 v31 v32 v33 v34 v35 v36 v37 v38 v39 v40 v41 v42 v43 v44 v45 v46 v47 v48 v49 v50 v51 v52 v53 v54 v55 v56 v57 v58 v59 v60 v61 v62 v63 v64 v65 v66 v67 v68 v69 v70 v71 v72 v73 v74 v75 v76 v77 v78 v79 v80 v81 v82 v83 v84 v85 v86 v87 v88 v89 v90 v91 v92 v93 v94 v95 v96 v97 v98 v99 v100 v101 v102 v103 v104 v105 v106 v107 v108 v109 v110 v111 v112 v113 v114 v115 v116 v117 v118 v119 v120 v121 v122 v123 v124 v125 v126 v127 v128 v129 v130 v131 v132 v133 v134 v135 v136 v137 v138 v139 v140 v141 v142 v143 v144 v145 v146 v147 v148 v149 v150 v151 v152 v153 v154 v155 v156 v157 v158 v159 v160 v161 v162 v163 v164 v165 v166 v167 v168 v169 v170 v171 v172 v173 v174 v175 v176 v177 v178 v179 v180 v181 v182 v183 v184 v185 v186 v187 v188 v189 v190 v191 v192 v193 v194 v195 v196 v197 v198 v199 v200 v201 : Value} (df : List Deferred) (w W : World) (q gp g : Nat) (ms : List (Option Mb)) (bl : List (Nat × List Value × TypeId)) (frm flags mode : Int) (auth is : Bool) (A : Int) (y : Mb) (G : Bool) (K : Exit → Act → World → Prop) (hT : Tw w W q ms bl) (hg : Bk g W (enL y).toArray 62) (hmo : W.cell? ⟨gp, 2, none⟩ = some (.int .i64 mode)) (hA : A = 3 ∨ A = 4) (hnp : bits .and .i64 flags 8 = 0) (hau : auth = true ∨ bits .and .i64 flags 16 = 0) (hkd : kdI ms (fsF (nkP frm false) ms) = 0) (hln : (rowsOf ms).length < 16)
    (hend : ∀ tm' W', tm'.getD 14 undef = .bool true → Below W.heap.size W W' → K .ret { tmps := tm', defers := df } W') : Code.wp Try.prog c K { tmps := (v0 :: v1 :: v2 :: (Value.int .u32 frm) :: v4 :: (Value.int .i64 flags) :: (Value.bool auth) :: v7 :: v8 :: (Value.pointer (some ⟨gp, 0, none⟩)) :: v10 :: v11 :: v12 :: v13 :: v14 :: (Value.pointer (some ⟨q, 0, none⟩)) :: v16 :: v17 :: v18 :: (Value.int .i64 A) :: (Value.int .i64 0) :: (Value.pointer (some ⟨g, 0, none⟩)) :: (Value.bool is) :: (Value.bool G) :: v24 :: v25 :: v26 :: v27 :: v28 :: v29 :: v30 :: v31 :: v32 :: v33 :: v34 :: v35 :: v36 :: v37 :: v38 :: v39 :: v40 :: v41 :: v42 :: v43 :: v44 :: v45 :: v46 :: v47 :: v48 :: v49 :: v50 :: v51 :: v52 :: v53 :: v54 :: v55 :: v56 :: v57 :: v58 :: v59 :: v60 :: v61 :: v62 :: v63 :: v64 :: v65 :: v66 :: v67 :: v68 :: v69 :: v70 :: v71 :: v72 :: v73 :: v74 :: v75 :: v76 :: v77 :: v78 :: v79 :: v80 :: v81 :: v82 :: v83 :: v84 :: v85 :: v86 :: v87 :: v88 :: v89 :: v90 :: v91 :: v92 :: v93 :: v94 :: v95 :: v96 :: v97 :: v98 :: v99 :: v100 :: v101 :: v102 :: v103 :: v104 :: v105 :: v106 :: v107 :: v108 :: v109 :: v110 :: v111 :: v112 :: v113 :: v114 :: v115 :: v116 :: v117 :: v118 :: v119 :: v120 :: v121 :: v122 :: v123 :: v124 :: v125 :: v126 :: v127 :: v128 :: v129 :: v130 :: v131 :: v132 :: v133 :: v134 :: v135 :: v136 :: v137 :: v138 :: v139 :: v140 :: v141 :: v142 :: v143 :: v144 :: v145 :: v146 :: v147 :: v148 :: v149 :: v150 :: v151 :: v152 :: v153 :: v154 :: v155 :: v156 :: v157 :: v158 :: v159 :: v160 :: v161 :: v162 :: v163 :: v164 :: v165 :: v166 :: v167 :: v168 :: v169 :: v170 :: v171 :: v172 :: v173 :: v174 :: v175 :: v176 :: v177 :: v178 :: v179 :: v180 :: v181 :: v182 :: v183 :: v184 :: v185 :: v186 :: v187 :: v188 :: v189 :: v190 :: v191 :: v192 :: v193 :: v194 :: v195 :: v196 :: v197 :: v198 :: v199 :: v200 :: v201 :: []).toArray, defers := df } W := by
  have HE : Hid (∀ tm' W', tm'.getD 14 undef = .bool true → Below W.heap.size W W' → K .ret { tmps := tm', defers := df } W') := hend
  have HT : Hid (Tw w W q ms bl) := hT
  have c1 : W.cell? ⟨g, 1, none⟩ = some (.int .i64 y.ac.kind) := hg.cell 1
  have c2 : W.cell? ⟨g, 2, none⟩ = some (.int .u32 y.ac.addr) := hg.cell 2
  clear hend hT hg
  have hu : ukB ms frm = true := by unfold ukB; rw [hkd]; rfl
  have HU : Hid (∀ u, Tb u q ms → Calls Try.prog 20 #[.pointer (some ⟨q, 0, none⟩), .int .u32 frm] u fun e w' => e = .returned (.bool true) ∧ Below u.heap.size u w') := fun u hu' => by
    have := unknown_any q ms frm u hu'
    rw [hu] at this
    exact this
  obtain ⟨len, hlen⟩ : ∃ l, (rowsOf ms).length = l := ⟨_, rfl⟩
  have HLi : Hid (∀ u, Tb u q ms → Calls Try.prog 14 #[.pointer (some ⟨q, 0, none⟩)] u fun e w' => ∃ ao cap, e = .returned (.slice ao len cap) ∧ Below u.heap.size u w') := fun u hu => by
    refine (list_any q ms u hu).mono ?_
    rintro e w' ⟨v, rfl, h1, h2⟩
    obtain ⟨ao, cap, rfl⟩ := or_len h1.out
    exact ⟨ao, cap, by rw [List.length_map, hlen], h2.out⟩
  rw [hlen] at hln
  have hln2 : (len : Int) < 16 := by omega
  obtain ⟨N16, hN16⟩ : ∃ N, bits .and .i64 flags 16 = N := ⟨_, rfl⟩
  rw [hN16] at hau
  have hau2 : auth = true ∨ (auth = false ∧ N16 = 0) := by
    cases auth
    · rcases hau with h | h
      · cases h
      · exact .inr ⟨rfl, h⟩
    · exact .inl rfl
  clear hkd hu hlen hln hau
  subst hcode
  unfold rfWays Try.f6
  simp only [dropSeq, Option.getD_some]
  rcases hau2 with rfl | ⟨rfl, rfl⟩ <;> rcases hA with rfl | rfl
  all_goals
    go_wp2_with (first
      | (go_at_call 20; refine (HU.out _ HT.out.tb).mono ?_; rintro e w10 ⟨rfl, hb10⟩)
      | (go_at_call 14; refine (HLi.out _ (HT.out.tb.below hb10)).mono ?_; rintro e w11 ⟨ao', cap', rfl, hb11⟩))
    exact HE.out _ _ (by first | rfl | (show Value.bool _ = Value.bool true; simp)) (below_thru hb10 hb11)
end Go.Proofs.Ytnjdmkgkpdebdaa
