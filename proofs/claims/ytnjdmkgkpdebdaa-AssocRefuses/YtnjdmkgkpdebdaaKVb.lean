/- assoc: AssocRefuses, whether it is a group. -/
import Derived.Test.YtnjdmkgkpdebdaaKVa
namespace Go.Proofs.Ytnjdmkgkpdebdaa
open Go Go.RowKit Go.Sort
set_option linter.unusedVariables false
def dropSeq : Nat → Code → Code
  | 0, c => c
  | n + 1, .seq _ c => dropSeq n c
  | _, c => c
def firstOf : Code → Code
  | .seq a _ => a
  | c => c
def rfGroup (f : Go.Func) : Code := firstOf (dropSeq 7 (f.body.getD .skip))
def rfWays (f : Go.Func) : Code := dropSeq 8 (f.body.getD .skip)
set_option maxRecDepth 40000 in
set_option maxHeartbeats 2000000 in
theorem rf_group {c : Code} (hcode : c = (rfGroup Try.f6)) {v0 v1 v2 v4 v7 v8 v10 v11 v12 v13 v14 v16 v17 v18 v23 v24 v25 v26 v27 v28 v29 v30 v31 v32 v33 v34 v35 v36 v37 v38 v39 v40 v41 v42 v43 v44 v45 v46 v47 v48 v49 v50 v51 v52 v53 v54 v55 v56 v57 v58 v59 v60 v61 v62 v63 v64 v65 v66 v67 v68 v69 v70 v71 v72 v73 v74 v75 v76 v77 v78 v79 v80 v81 v82 v83 v84 v85 v86 v87 v88 v89 v90 v91 v92 v93 v94 v95 v96 v97 v98 v99 v100 v101 v102 v103 v104 v105 v106 v107 v108 v109 v110 v111 v112 v113 v114 v115 v116 v117 v118 v119 v120 v121 v122 v123 v124 v125 v126 v127 v128 v129 v130 v131 v132 v133 v134 v135 v136 v137 v138 v139 v140 v141 v142 v143 v144 v145 v146 v147 v148 v149 v150 v151 v152 v153 v154 v155 v156 v157 v158 v159 v160 v161 v162 v163 v164 v165 v166 v167 v168 v169 v170 v171 v172 v173 v174 v175 v176 v177 v178 v179 v180 v181 v182 v183 v184 v185 v186 v187 v188 v189 v190 v191 v192 v193 v194 v195 v196 v197 v198 v199 v200 v201 : Value} (df : List Deferred) (frm flags A n : Int) (auth is : Bool) (gp q g : Nat) (W : World) (K : Exit → Act → World → Prop)
    (hend : ∀ u74 u75 u76 u77 u78 u79 u80 u81 u82 u83 u84 : Value, K .normal { tmps := (v0 :: v1 :: v2 :: (Value.int .u32 frm) :: v4 :: (Value.int .i64 flags) :: (Value.bool auth) :: v7 :: v8 :: (Value.pointer (some ⟨gp, 0, none⟩)) :: v10 :: v11 :: v12 :: v13 :: v14 :: (Value.pointer (some ⟨q, 0, none⟩)) :: v16 :: v17 :: v18 :: (Value.int .i64 A) :: (Value.int .i64 n) :: (Value.pointer (some ⟨g, 0, none⟩)) :: (Value.bool is) :: (Value.bool (grB frm)) :: v24 :: v25 :: v26 :: v27 :: v28 :: v29 :: v30 :: v31 :: v32 :: v33 :: v34 :: v35 :: v36 :: v37 :: v38 :: v39 :: v40 :: v41 :: v42 :: v43 :: v44 :: v45 :: v46 :: v47 :: v48 :: v49 :: v50 :: v51 :: v52 :: v53 :: v54 :: v55 :: v56 :: v57 :: v58 :: v59 :: v60 :: v61 :: v62 :: v63 :: v64 :: v65 :: v66 :: v67 :: v68 :: v69 :: v70 :: v71 :: v72 :: v73 :: u74 :: u75 :: u76 :: u77 :: u78 :: u79 :: u80 :: u81 :: u82 :: u83 :: u84 :: v85 :: v86 :: v87 :: v88 :: v89 :: v90 :: v91 :: v92 :: v93 :: v94 :: v95 :: v96 :: v97 :: v98 :: v99 :: v100 :: v101 :: v102 :: v103 :: v104 :: v105 :: v106 :: v107 :: v108 :: v109 :: v110 :: v111 :: v112 :: v113 :: v114 :: v115 :: v116 :: v117 :: v118 :: v119 :: v120 :: v121 :: v122 :: v123 :: v124 :: v125 :: v126 :: v127 :: v128 :: v129 :: v130 :: v131 :: v132 :: v133 :: v134 :: v135 :: v136 :: v137 :: v138 :: v139 :: v140 :: v141 :: v142 :: v143 :: v144 :: v145 :: v146 :: v147 :: v148 :: v149 :: v150 :: v151 :: v152 :: v153 :: v154 :: v155 :: v156 :: v157 :: v158 :: v159 :: v160 :: v161 :: v162 :: v163 :: v164 :: v165 :: v166 :: v167 :: v168 :: v169 :: v170 :: v171 :: v172 :: v173 :: v174 :: v175 :: v176 :: v177 :: v178 :: v179 :: v180 :: v181 :: v182 :: v183 :: v184 :: v185 :: v186 :: v187 :: v188 :: v189 :: v190 :: v191 :: v192 :: v193 :: v194 :: v195 :: v196 :: v197 :: v198 :: v199 :: v200 :: v201 :: []).toArray, defers := df } W) : Code.wp Try.prog c K { tmps := (v0 :: v1 :: v2 :: (Value.int .u32 frm) :: v4 :: (Value.int .i64 flags) :: (Value.bool auth) :: v7 :: v8 :: (Value.pointer (some ⟨gp, 0, none⟩)) :: v10 :: v11 :: v12 :: v13 :: v14 :: (Value.pointer (some ⟨q, 0, none⟩)) :: v16 :: v17 :: v18 :: (Value.int .i64 A) :: (Value.int .i64 n) :: (Value.pointer (some ⟨g, 0, none⟩)) :: (Value.bool is) :: v23 :: v24 :: v25 :: v26 :: v27 :: v28 :: v29 :: v30 :: v31 :: v32 :: v33 :: v34 :: v35 :: v36 :: v37 :: v38 :: v39 :: v40 :: v41 :: v42 :: v43 :: v44 :: v45 :: v46 :: v47 :: v48 :: v49 :: v50 :: v51 :: v52 :: v53 :: v54 :: v55 :: v56 :: v57 :: v58 :: v59 :: v60 :: v61 :: v62 :: v63 :: v64 :: v65 :: v66 :: v67 :: v68 :: v69 :: v70 :: v71 :: v72 :: v73 :: v74 :: v75 :: v76 :: v77 :: v78 :: v79 :: v80 :: v81 :: v82 :: v83 :: v84 :: v85 :: v86 :: v87 :: v88 :: v89 :: v90 :: v91 :: v92 :: v93 :: v94 :: v95 :: v96 :: v97 :: v98 :: v99 :: v100 :: v101 :: v102 :: v103 :: v104 :: v105 :: v106 :: v107 :: v108 :: v109 :: v110 :: v111 :: v112 :: v113 :: v114 :: v115 :: v116 :: v117 :: v118 :: v119 :: v120 :: v121 :: v122 :: v123 :: v124 :: v125 :: v126 :: v127 :: v128 :: v129 :: v130 :: v131 :: v132 :: v133 :: v134 :: v135 :: v136 :: v137 :: v138 :: v139 :: v140 :: v141 :: v142 :: v143 :: v144 :: v145 :: v146 :: v147 :: v148 :: v149 :: v150 :: v151 :: v152 :: v153 :: v154 :: v155 :: v156 :: v157 :: v158 :: v159 :: v160 :: v161 :: v162 :: v163 :: v164 :: v165 :: v166 :: v167 :: v168 :: v169 :: v170 :: v171 :: v172 :: v173 :: v174 :: v175 :: v176 :: v177 :: v178 :: v179 :: v180 :: v181 :: v182 :: v183 :: v184 :: v185 :: v186 :: v187 :: v188 :: v189 :: v190 :: v191 :: v192 :: v193 :: v194 :: v195 :: v196 :: v197 :: v198 :: v199 :: v200 :: v201 :: []).toArray, defers := df } W := by
  have HE : Hid (∀ u74 u75 u76 u77 u78 u79 u80 u81 u82 u83 u84 : Value, K .normal { tmps := (v0 :: v1 :: v2 :: (Value.int .u32 frm) :: v4 :: (Value.int .i64 flags) :: (Value.bool auth) :: v7 :: v8 :: (Value.pointer (some ⟨gp, 0, none⟩)) :: v10 :: v11 :: v12 :: v13 :: v14 :: (Value.pointer (some ⟨q, 0, none⟩)) :: v16 :: v17 :: v18 :: (Value.int .i64 A) :: (Value.int .i64 n) :: (Value.pointer (some ⟨g, 0, none⟩)) :: (Value.bool is) :: (Value.bool (grB frm)) :: v24 :: v25 :: v26 :: v27 :: v28 :: v29 :: v30 :: v31 :: v32 :: v33 :: v34 :: v35 :: v36 :: v37 :: v38 :: v39 :: v40 :: v41 :: v42 :: v43 :: v44 :: v45 :: v46 :: v47 :: v48 :: v49 :: v50 :: v51 :: v52 :: v53 :: v54 :: v55 :: v56 :: v57 :: v58 :: v59 :: v60 :: v61 :: v62 :: v63 :: v64 :: v65 :: v66 :: v67 :: v68 :: v69 :: v70 :: v71 :: v72 :: v73 :: u74 :: u75 :: u76 :: u77 :: u78 :: u79 :: u80 :: u81 :: u82 :: u83 :: u84 :: v85 :: v86 :: v87 :: v88 :: v89 :: v90 :: v91 :: v92 :: v93 :: v94 :: v95 :: v96 :: v97 :: v98 :: v99 :: v100 :: v101 :: v102 :: v103 :: v104 :: v105 :: v106 :: v107 :: v108 :: v109 :: v110 :: v111 :: v112 :: v113 :: v114 :: v115 :: v116 :: v117 :: v118 :: v119 :: v120 :: v121 :: v122 :: v123 :: v124 :: v125 :: v126 :: v127 :: v128 :: v129 :: v130 :: v131 :: v132 :: v133 :: v134 :: v135 :: v136 :: v137 :: v138 :: v139 :: v140 :: v141 :: v142 :: v143 :: v144 :: v145 :: v146 :: v147 :: v148 :: v149 :: v150 :: v151 :: v152 :: v153 :: v154 :: v155 :: v156 :: v157 :: v158 :: v159 :: v160 :: v161 :: v162 :: v163 :: v164 :: v165 :: v166 :: v167 :: v168 :: v169 :: v170 :: v171 :: v172 :: v173 :: v174 :: v175 :: v176 :: v177 :: v178 :: v179 :: v180 :: v181 :: v182 :: v183 :: v184 :: v185 :: v186 :: v187 :: v188 :: v189 :: v190 :: v191 :: v192 :: v193 :: v194 :: v195 :: v196 :: v197 :: v198 :: v199 :: v200 :: v201 :: []).toArray, defers := df } W) := hend
  clear hend
  obtain ⟨G, hG⟩ : ∃ G, grB frm = G := ⟨_, rfl⟩
  rw [hG] at HE
  have hcs : (frm / 268435456 = 14 ∧ G = true) ∨ (¬ frm / 268435456 = 14 ∧ frm = 0 ∧ G = true) ∨ (¬ frm / 268435456 = 14 ∧ ¬ frm = 0 ∧ frm = 4294967295 ∧ G = true) ∨ (¬ frm / 268435456 = 14 ∧ ¬ frm = 0 ∧ ¬ frm = 4294967295 ∧ G = false) := by
    rw [← hG]
    unfold grB
    by_cases h1 : frm / 268435456 = 14
    · exact .inl ⟨h1, by simp [h1]⟩
    · by_cases h2 : frm = 0
      · exact .inr (.inl ⟨h1, h2, by simp [h2]⟩)
      · by_cases h3 : frm = 4294967295
        · exact .inr (.inr (.inl ⟨h1, h2, h3, by simp [h3]⟩))
        · exact .inr (.inr (.inr ⟨h1, h2, h3, by simp [h1, h2, h3]⟩))
  clear hG
  subst hcode
  unfold rfGroup Try.f6
  simp only [firstOf, dropSeq, Option.getD_some]
  have fin : ∀ a : Act, a = a → True := fun _ _ => trivial
  clear fin
  rcases hcs with ⟨h1, rfl⟩ | ⟨h1, rfl, rfl⟩ | ⟨h1, h2, rfl, rfl⟩ | ⟨h1, h2, h3, rfl⟩
  · go_wp2_with fail
    exact HE.out _ _ _ _ _ _ _ _ _ _ _
  · go_wp2_with fail
    exact HE.out _ _ _ _ _ _ _ _ _ _ _
  · go_wp2_with fail
    exact HE.out _ _ _ _ _ _ _ _ _ _ _
  · have h3d : decide (frm = 4294967295) = false := decide_eq_false h3
    have h3e : (frm == 4294967295) = false := by simpa using h3
    have h1e : (frm / 268435456 == 14) = false := by simpa using h1
    have h2e : (frm == 0) = false := by simpa using h2
    go_wp2_with fail
    exact HE.out _ _ _ _ _ _ _ _ _ _ _
end Go.Proofs.Ytnjdmkgkpdebdaa
