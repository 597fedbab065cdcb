/- assoc: AssocBounds, behind each step. -/
import Derived.Test.YtnjdmkgkpdebdaaKW
import Derived.Test.YtnjdmkgkpdebdaaKVa
import Derived.Test.YtnjdmkgkpdebdaaGQ
namespace Go.Proofs.Ytnjdmkgkpdebdaa
open Go Go.RowKit Go.Sort
set_option linter.unusedVariables false
def dropSeq : Nat → Code → Code
  | 0, c => c
  | n + 1, .seq _ c => dropSeq n c
  | _, c => c
def inLoop : Code → Option Code
  | .loop b => some b
  | .seq a b => match inLoop a with
    | some c => some c
    | none => inLoop b
  | .block _ b => inLoop b
  | _ => none
def inRound : Code → Code
  | .seq _ (.seq _ (.seq (.block _ x) _)) => x
  | c => c
def bdTail (f : Go.Func) : Code := dropSeq 3 (inRound ((inLoop (f.body.getD .skip)).getD .skip))
/-- what stands between steps -/
structure Bd (w W : World) (q : Nat) (ms : List (Option Mb)) (xs : List As) (gc : Nat) (cf : List Value) : Prop where
  tw : Tw w W q ms [(gc, cf, 29)]
  bp : Bp xs ms
theorem Bd.below {w W W' : World} {q : Nat} {ms : List (Option Mb)} {xs : List As} {gc : Nat} {cf : List Value} (h : Bd w W q ms xs gc cf) (hb : Below W.heap.size W W') : Bd w W' q ms xs gc cf := ⟨h.tw.below hb, h.bp⟩
theorem ix_en {ao : Option Addr} {ad : Addr} (n cap k : Nat) (h : ao = some ad) (hk : (k : Int) < n) (w : World) : Sem.run Try.prog (Instr.indexAt 55 (.slice ao n cap) (.int .i64 (k : Int))) w = .ok (.pointer (some (ad.add (k * 15)))) w := by
  have u' := Try.underlying55
  have c3 : Try.prog.cellsOf 62 = 15 := by kernel_rfl
  have h0 : (0 : Int) ≤ k := Int.natCast_nonneg k
  subst h
  go_simp
theorem step_neq {ops : Array Oper} {rest : List Oper} {o : Oper} {a : Act} {w : World} {Q : Exit → Act → World → Prop} (hw : Region.wanted o (yielded ops a.tmps) = true) (x y : Operand) (ho : o.op = .binOp .neq 41 x y 41) (c : As) (hx : a.eval x = .agg (asL c).toArray) (hy : a.eval y = .agg (asL c).toArray)
    (h : wpList Try.prog ops Q rest (a.put o.dst (.bool false)) w) : wpList Try.prog ops Q (o :: rest) a w :=
  wpList_step fun K hK => by
    have e : (execOp a.eval o).run Try.prog w = .ok (.value (.bool false)) w := by
      obtain ⟨c0, c1, c2, c3, c4, c5, c6, c7, c8, c9, c10, c11⟩ := c
      unfold asL at hx hy
      unfold execOp
      simp only [ho, hx, hy]
      go_simp
    rw [if_pos hw]
    unfold Oper.wp
    rw [e]
    exact hK _ _ h
set_option maxRecDepth 40000 in
set_option maxHeartbeats 8000000 in
theorem bd_tail {c : Code} (hcode : c = (bdTail Try.f5)) {v0 v1 v3 v4 v6 v7 v8 v9 v10 v11 v12 v13 v14 v15 v16 v17 v18 v19 v20 v21 v22 v23 v24 v25 v26 v27 v28 v29 v30 v31 v32 v33 v34 v35 v36 v37 v38 v39 v40 v41 v42 v43 v44 v45 v46 v47 v48 v49 v50 v51 v52 v53 v54 v55 v56 v57 v58 v59 v60 v61 v62 v63 v64 v65 v66 v67 v68 v69 v70 v71 v72 v73 v74 v75 v76 v77 v78 v79 v80 v81 v82 v83 v84 v85 v86 v87 v88 v89 v90 v91 v92 v93 v94 v95 v96 v97 v98 v99 v100 v101 v102 v103 v104 v105 v106 v107 v108 v109 v110 v111 v112 v113 v114 v115 v116 v117 v118 v119 v120 v121 v122 v123 v124 v125 v126 v127 v128 v129 v130 v131 v132 v133 v134 v135 v136 v137 v138 v139 v140 v141 v142 v143 v144 v145 v146 v147 v148 v149 v150 v151 v152 v153 v154 v155 v156 v157 v158 v159 v160 v161 v162 v163 v164 v165 v166 v167 v168 v169 v170 v171 v172 v173 v174 v175 v176 v177 v178 v179 v180 v181 v182 v183 v184 v185 v186 v187 v188 v189 v190 v191 v192 v193 v194 v195 v196 v197 v198 v199 v200 v201 v202 v203 v204 v205 v206 v207 v208 v209 v210 v211 v212 v213 v214 v215 : Value} (df : List Deferred) (w W : World) (q gc : Nat) (ms : List (Option Mb)) (xs : List As) (cf : List Value) (av : Value) (ls mc : Bool) (K : Exit → Act → World → Prop) (hI : Bd w W q ms xs gc cf) (hc : Cf cf av ls mc) (hr : Rk w.heap.size w 12 av (xs.map asL)) (hx : xs.length ≤ 16)
    (hend : ∀ W' u4 u13 u14 u15 u17 u18 u19 u20 u21 u118 u119 u120 u121 u122 u123 u124 u125 u126 u127 u128 u129 u130 u131 u132 u133 u134 u135 u136 u137 u138 u139 u140 u141 u142 u143 u144 u145 u146 u147 u148 u149 u150 u151 u152 u153 u154 u155 u156 u157 u158 u159 u160 u161 u162 u163 u164 u165 u166 u167 u168 u169 u170 u171 u172 u173 u174 u175 u176 u177 u178 u179 u180 u181 u182 u183 u184 u185 u186 u187 u188 u189 u190 u191 u192 u193 u194 u195 u196 u197 u198 u199 u200 u201 u202 u203 u204 u205 u206 u207 u208 u209 u210 u211 u212 u213 u214, Bd w W' q ms xs gc cf → K .normal { tmps := (v0 :: v1 :: Value.pointer (some ⟨gc, 0, none⟩) :: v3 :: u4 :: Value.pointer (some ⟨q, 0, none⟩) :: v6 :: v7 :: v8 :: v9 :: v10 :: v11 :: v12 :: u13 :: u14 :: u15 :: v16 :: u17 :: u18 :: u19 :: u20 :: u21 :: v22 :: v23 :: v24 :: v25 :: v26 :: v27 :: v28 :: v29 :: v30 :: v31 :: v32 :: v33 :: v34 :: v35 :: v36 :: v37 :: v38 :: v39 :: v40 :: v41 :: v42 :: v43 :: v44 :: v45 :: v46 :: v47 :: v48 :: v49 :: v50 :: v51 :: v52 :: v53 :: v54 :: v55 :: v56 :: v57 :: v58 :: v59 :: v60 :: v61 :: v62 :: v63 :: v64 :: v65 :: v66 :: v67 :: v68 :: v69 :: v70 :: v71 :: v72 :: v73 :: v74 :: v75 :: v76 :: v77 :: v78 :: v79 :: v80 :: v81 :: v82 :: v83 :: v84 :: v85 :: v86 :: v87 :: v88 :: v89 :: v90 :: v91 :: v92 :: v93 :: v94 :: v95 :: v96 :: v97 :: v98 :: v99 :: v100 :: v101 :: v102 :: v103 :: v104 :: v105 :: v106 :: v107 :: v108 :: v109 :: v110 :: v111 :: v112 :: v113 :: v114 :: v115 :: v116 :: v117 :: u118 :: u119 :: u120 :: u121 :: u122 :: u123 :: u124 :: u125 :: u126 :: u127 :: u128 :: u129 :: u130 :: u131 :: u132 :: u133 :: u134 :: u135 :: u136 :: u137 :: u138 :: u139 :: u140 :: u141 :: u142 :: u143 :: u144 :: u145 :: u146 :: u147 :: u148 :: u149 :: u150 :: u151 :: u152 :: u153 :: u154 :: u155 :: u156 :: u157 :: u158 :: u159 :: u160 :: u161 :: u162 :: u163 :: u164 :: u165 :: u166 :: u167 :: u168 :: u169 :: u170 :: u171 :: u172 :: u173 :: u174 :: u175 :: u176 :: u177 :: u178 :: u179 :: u180 :: u181 :: u182 :: u183 :: u184 :: u185 :: u186 :: u187 :: u188 :: u189 :: u190 :: u191 :: u192 :: u193 :: u194 :: u195 :: u196 :: u197 :: u198 :: u199 :: u200 :: u201 :: u202 :: u203 :: u204 :: u205 :: u206 :: u207 :: u208 :: u209 :: u210 :: u211 :: u212 :: u213 :: u214 :: v215 :: []).toArray, defers := df } W') : Code.wp Try.prog c K { tmps := (v0 :: v1 :: Value.pointer (some ⟨gc, 0, none⟩) :: v3 :: v4 :: Value.pointer (some ⟨q, 0, none⟩) :: v6 :: v7 :: v8 :: v9 :: v10 :: v11 :: v12 :: v13 :: v14 :: v15 :: v16 :: v17 :: v18 :: v19 :: v20 :: v21 :: v22 :: v23 :: v24 :: v25 :: v26 :: v27 :: v28 :: v29 :: v30 :: v31 :: v32 :: v33 :: v34 :: v35 :: v36 :: v37 :: v38 :: v39 :: v40 :: v41 :: v42 :: v43 :: v44 :: v45 :: v46 :: v47 :: v48 :: v49 :: v50 :: v51 :: v52 :: v53 :: v54 :: v55 :: v56 :: v57 :: v58 :: v59 :: v60 :: v61 :: v62 :: v63 :: v64 :: v65 :: v66 :: v67 :: v68 :: v69 :: v70 :: v71 :: v72 :: v73 :: v74 :: v75 :: v76 :: v77 :: v78 :: v79 :: v80 :: v81 :: v82 :: v83 :: v84 :: v85 :: v86 :: v87 :: v88 :: v89 :: v90 :: v91 :: v92 :: v93 :: v94 :: v95 :: v96 :: v97 :: v98 :: v99 :: v100 :: v101 :: v102 :: v103 :: v104 :: v105 :: v106 :: v107 :: v108 :: v109 :: v110 :: v111 :: v112 :: v113 :: v114 :: v115 :: v116 :: v117 :: v118 :: v119 :: v120 :: v121 :: v122 :: v123 :: v124 :: v125 :: v126 :: v127 :: v128 :: v129 :: v130 :: v131 :: v132 :: v133 :: v134 :: v135 :: v136 :: v137 :: v138 :: v139 :: v140 :: v141 :: v142 :: v143 :: v144 :: v145 :: v146 :: v147 :: v148 :: v149 :: v150 :: v151 :: v152 :: v153 :: v154 :: v155 :: v156 :: v157 :: v158 :: v159 :: v160 :: v161 :: v162 :: v163 :: v164 :: v165 :: v166 :: v167 :: v168 :: v169 :: v170 :: v171 :: v172 :: v173 :: v174 :: v175 :: v176 :: v177 :: v178 :: v179 :: v180 :: v181 :: v182 :: v183 :: v184 :: v185 :: v186 :: v187 :: v188 :: v189 :: v190 :: v191 :: v192 :: v193 :: v194 :: v195 :: v196 :: v197 :: v198 :: v199 :: v200 :: v201 :: v202 :: v203 :: v204 :: v205 :: v206 :: v207 :: v208 :: v209 :: v210 :: v211 :: v212 :: v213 :: v214 :: v215 :: []).toArray, defers := df } W := by
  have HE : Hid (∀ W' u4 u13 u14 u15 u17 u18 u19 u20 u21 u118 u119 u120 u121 u122 u123 u124 u125 u126 u127 u128 u129 u130 u131 u132 u133 u134 u135 u136 u137 u138 u139 u140 u141 u142 u143 u144 u145 u146 u147 u148 u149 u150 u151 u152 u153 u154 u155 u156 u157 u158 u159 u160 u161 u162 u163 u164 u165 u166 u167 u168 u169 u170 u171 u172 u173 u174 u175 u176 u177 u178 u179 u180 u181 u182 u183 u184 u185 u186 u187 u188 u189 u190 u191 u192 u193 u194 u195 u196 u197 u198 u199 u200 u201 u202 u203 u204 u205 u206 u207 u208 u209 u210 u211 u212 u213 u214, Bd w W' q ms xs gc cf → K .normal { tmps := (v0 :: v1 :: Value.pointer (some ⟨gc, 0, none⟩) :: v3 :: u4 :: Value.pointer (some ⟨q, 0, none⟩) :: v6 :: v7 :: v8 :: v9 :: v10 :: v11 :: v12 :: u13 :: u14 :: u15 :: v16 :: u17 :: u18 :: u19 :: u20 :: u21 :: v22 :: v23 :: v24 :: v25 :: v26 :: v27 :: v28 :: v29 :: v30 :: v31 :: v32 :: v33 :: v34 :: v35 :: v36 :: v37 :: v38 :: v39 :: v40 :: v41 :: v42 :: v43 :: v44 :: v45 :: v46 :: v47 :: v48 :: v49 :: v50 :: v51 :: v52 :: v53 :: v54 :: v55 :: v56 :: v57 :: v58 :: v59 :: v60 :: v61 :: v62 :: v63 :: v64 :: v65 :: v66 :: v67 :: v68 :: v69 :: v70 :: v71 :: v72 :: v73 :: v74 :: v75 :: v76 :: v77 :: v78 :: v79 :: v80 :: v81 :: v82 :: v83 :: v84 :: v85 :: v86 :: v87 :: v88 :: v89 :: v90 :: v91 :: v92 :: v93 :: v94 :: v95 :: v96 :: v97 :: v98 :: v99 :: v100 :: v101 :: v102 :: v103 :: v104 :: v105 :: v106 :: v107 :: v108 :: v109 :: v110 :: v111 :: v112 :: v113 :: v114 :: v115 :: v116 :: v117 :: u118 :: u119 :: u120 :: u121 :: u122 :: u123 :: u124 :: u125 :: u126 :: u127 :: u128 :: u129 :: u130 :: u131 :: u132 :: u133 :: u134 :: u135 :: u136 :: u137 :: u138 :: u139 :: u140 :: u141 :: u142 :: u143 :: u144 :: u145 :: u146 :: u147 :: u148 :: u149 :: u150 :: u151 :: u152 :: u153 :: u154 :: u155 :: u156 :: u157 :: u158 :: u159 :: u160 :: u161 :: u162 :: u163 :: u164 :: u165 :: u166 :: u167 :: u168 :: u169 :: u170 :: u171 :: u172 :: u173 :: u174 :: u175 :: u176 :: u177 :: u178 :: u179 :: u180 :: u181 :: u182 :: u183 :: u184 :: u185 :: u186 :: u187 :: u188 :: u189 :: u190 :: u191 :: u192 :: u193 :: u194 :: u195 :: u196 :: u197 :: u198 :: u199 :: u200 :: u201 :: u202 :: u203 :: u204 :: u205 :: u206 :: u207 :: u208 :: u209 :: u210 :: u211 :: u212 :: u213 :: u214 :: v215 :: []).toArray, defers := df } W') := hend
  have HI : Hid (Bd w W q ms xs gc cf ∧ Cf cf av ls mc ∧ Rk w.heap.size w 12 av (xs.map asL) ∧ xs.length ≤ 16) := ⟨hI, hc, hr, hx⟩
  clear hend hI hc hr hx
  subst hcode
  unfold bdTail Try.f5
  simp only [inLoop, inRound, dropSeq, Option.getD_some]
  refine seq_hid fun R hR => ?_
  go_wp2_with (go_at_call 14; refine (list_any q ms W HI.out.1.tw.tb).mono ?_; rintro e w1 ⟨v, rfl, h1, hb1⟩)
  obtain ⟨ao, cap, hv, hcap, hrow⟩ := h1.out.rk
  obtain ⟨n, hn⟩ : ∃ n, (rowsOf ms).length = n := ⟨_, rfl⟩
  rw [List.length_map, hn] at hv
  rw [List.length_map, hn] at hcap hrow
  subst hv
  have HN : Hid ((rowsOf ms).length = n ∧ n ≤ cap) := ⟨hn, hcap⟩
  have H1 : Hid (Bd w w1 q ms xs gc cf ∧ ∀ i, i < n → ∃ ad, ao = some ad ∧ ad.block < w1.heap.size ∧ ∀ j u, (((rowsOf ms).map enL).getD i [])[j]? = some u → w1.cell? (ad.add (i * 15 + j)) = some u) := ⟨HI.out.1.below hb1.out, hrow⟩
  have hn16 : (n : Int) ≤ 16 := by
    have h1 := rows_len ms
    have h2 := HI.out.1.tw.tb.len
    omega
  have hcap2 : (n : Int) ≤ (cap : Int) := by omega
  clear hn hrow hb1 h1 hcap
  have RowAt : Hid (∀ i wr, i < n → Below w1.heap.size w1 wr → ∃ ad m, ao = some ad ∧ (rowsOf ms)[i]? = some m ∧ ∀ j u, (enL m)[j]? = some u → wr.cell? ((ad.add (i * 15)).add j) = some u) := fun i wr hi hb => by
    obtain ⟨ad, k1, k2, k3⟩ := H1.out.2 i hi
    have hil : i < (rowsOf ms).length := by rw [HN.out.1]; exact hi
    refine ⟨ad, (rowsOf ms)[i], k1, List.getElem?_eq_getElem hil, fun j u hu => ?_⟩
    rw [add_add, hb.cell (p := ad.add (i * 15 + j)) (by rw [add_block]; exact k2)]
    refine k3 j u ?_
    rw [List.getD_eq_getElem?_getD, List.getElem?_map, List.getElem?_eq_getElem hil]
    exact hu
  have Say : Hid (∀ i m, (rowsOf ms)[i]? = some m → 1 ≤ m.id ∧ m.id ≤ 16 ∧ (∀ (j : Nat) n, j < i → (rowsOf ms)[j]? = some n → n.id < m.id ∧ clB m.ac n.ac = false)) := fun i m hm => rows_say HI.out.1.bp HI.out.1.tw.tb.len HI.out.1.tw.tb.ids i m hm
  rw [hR.out]
  clear hR
  refine seq_hid fun R hR => ?_
  go_wp2_with fail
  rw [hR.out]
  clear hR
  refine seq_hid fun R hR => ?_
  go_wp2_with fail
  go_loopw [125] (fun i wr => ∃ (k : Nat), i = .int .i64 k ∧ (k : Int) ≤ n ∧ Hid (Below w1.heap.size w1 wr)) (fun i _ => n - (intOf i).toNat)
  case atStart => exact ⟨0, rfl, by omega, Below.refl _ _⟩
  case round =>
    obtain ⟨k, rfl, hk, HB⟩ := hrel
    by_cases hlt : (k : Int) < n
    · obtain ⟨ad, m, g1, g2, g3⟩ := RowAt.out k wr (by omega) HB.out
      subst g1
      have hix := ix_en (ad := ad) n cap k rfl hlt
      have HM : Hid ((rowsOf ms)[k]? = some m) := g2
      have HS : Hid (∀ j u, (enL m)[j]? = some u → wr.cell? ((ad.add (k * 15)).add j) = some u) := g3
      obtain ⟨s1, s2, s3⟩ := Say.out k m g2
      have S3 : Hid (∀ (j : Nat) n, j < k → (rowsOf ms)[j]? = some n → n.id < m.id ∧ clB m.ac n.ac = false) := s3
      clear g2 g3 s3
      go_upto_region 28 with (first
        | (refine step_ldat 62 _ rfl rfl (ad.add (k * 15)) (by rfl) (enL m) _ Try.underlying62 rfl (by kernel_rfl) HS.out ?_)
        | (refine step_alL (by rfl) 62 rfl (enL zMb).toArray (fun u => by kernel_rfl) ?_; intro w3 g H3)
        | (refine step_stL (by rfl) _ _ rfl g (enL m).toArray (by rfl) (by rfl) (enL zMb).toArray (by kernel_rfl) (by kernel_rfl) (by kernel_rfl) H3.out.bk ?_; intro w4 H4))
      have H5 : Hid (Below w1.heap.size w1 w4 ∧ Bk g w4 (enL m).toArray 62) := ⟨below_thru HB.out (H4.out.below H3.out.be H3.out.be.size (Nat.le_of_eq H3.out.at'.symm)), H4.out.bk⟩
      clear H3 H4 HS HB
      have c0 : w4.cell? ⟨g, 0, none⟩ = some (.int .i64 m.id) := H5.out.2.cell 0
      have c1 : w4.cell? ⟨g, 1, none⟩ = some (.int .i64 m.ac.kind) := H5.out.2.cell 1
      have c2 : w4.cell? ⟨g, 2, none⟩ = some (.int .u32 m.ac.addr) := H5.out.2.cell 2
      have d1 : ¬ m.id < 1 := by omega
      have d2 : ¬ 16 < m.id := by omega
      by_cases hk0 : k = 0
      · subst hk0
        go_wp2_with fail
        refine wp_region_quietW (by kernel_rfl) (by kernel_rfl) ?_
        repeat (refine qw_step (fun K hK => ?_); go_simp; refine hK _ ?_; clear hK K)
        refine qw_nil ?_
        intro w5 hw'
        obtain ⟨nq, hw''⟩ := hw'
        have H6 : Hid (Below w1.heap.size w1 w5 ∧ Bk g w5 (enL m).toArray 62) := by rw [hw'']; exact ⟨below_dr H5.out.1 nq, H5.out.2⟩
        clear hw'' H5 c0 c1 c2
        go_wp2_with fail
        go_loopw [157] (fun i wr => i = .int .i64 0 ∧ Hid (Below w1.heap.size w1 wr)) (fun i _ => 0)
        case atStart => exact ⟨rfl, H6.out.1⟩
        case round =>
          obtain ⟨rfl, HJ⟩ := hrel
          go_wp2_with fail
          go_roundw
          case rel => exact ⟨1, by go_num, by omega, HJ⟩
          case measure => simp [intOf]; omega
      · obtain ⟨k', rfl⟩ : ∃ k', k = k' + 1 := ⟨k - 1, by omega⟩
        obtain ⟨ad', m', g1', g2', g3'⟩ := RowAt.out k' w4 (by omega) H5.out.1
        injection g1' with g1'
        subst g1'
        have hix' := ix_en (ad := ad) n cap k' rfl (by omega)
        obtain ⟨A, hA⟩ : ∃ A, A = ad.add (k' * 15) := ⟨_, rfl⟩
        rw [← hA] at hix' g3'
        have c9 : w4.cell? (A.add 0) = some (.int .i64 m'.id) := g3' 0 _ rfl
        have c10 : w4.cell? A = some (.int .i64 m'.id) := by rw [← c9]; unfold Addr.add; split <;> simp_all
        have lt1 : ¬ m.id ≤ m'.id := by have := (S3.out k' m' (by omega) g2').1; omega
        obtain ⟨kk, hkk⟩ : ∃ kk : Nat, kk = k' + 1 := ⟨_, rfl⟩
        have hp : (0 : Int) < (kk : Int) := by omega
        have hpn : 0 < kk := by omega
        have hpd : decide ((0 : Int) < (kk : Int)) = true := decide_eq_true hp
        have hpd2 : decide (0 < kk) = true := decide_eq_true hpn
        have hs : IntKind.i64.wrap ((kk : Int) - 1) = (k' : Int) := by rw [IntWalk.i64_left]; unfold wrap64; omega
        have hs2 : wrap64 ((kk : Int) - 1) = (k' : Int) := by unfold wrap64; omega
        have HKK : Hid (kk = k' + 1) := hkk
        rw [← hkk]
        clear g2' g3' hA c9 hkk
        go_wp2_with fail
        refine wp_region_quietW (by kernel_rfl) (by kernel_rfl) ?_
        repeat (refine qw_step (fun K hK => ?_); go_simp; refine hK _ ?_; clear hK K)
        refine qw_nil ?_
        intro w5 hw'
        obtain ⟨nq, hw''⟩ := hw'
        have H6 : Hid (Below w1.heap.size w1 w5 ∧ Bk g w5 (enL m).toArray 62) := by rw [hw'']; exact ⟨below_dr H5.out.1 nq, H5.out.2⟩
        clear hw'' H5 c0 c1 c2
        have hkc : (kk : Int) ≤ (cap : Int) := by have := HKK.out; omega
        have hk16 : (kk : Int) ≤ 16 := by have := HKK.out; omega
        have hkn : (kk : Int) + 1 ≤ (n : Int) := by have := HKK.out; omega
        clear hs hs2 hpd hpd2 hk hlt
        go_wp2_with fail
        go_loopw [157] (fun i wr => ∃ (j : Nat), i = .int .i64 j ∧ (j : Int) ≤ (kk : Int) ∧ Hid (Below w1.heap.size w1 wr ∧ Bk g wr (enL m).toArray 62)) (fun i _ => kk - (intOf i).toNat)
        case atStart => exact ⟨0, rfl, by omega, H6⟩
        case round =>
          obtain ⟨j, rfl, hj, HJ⟩ := hrel
          by_cases hjl : (j : Int) < (kk : Int)
          · obtain ⟨ad2, m2, a1, a2, a3⟩ := RowAt.out j wr (by have := HKK.out; omega) HJ.out.1
            injection a1 with a1
            subst a1
            have hixj := ix_en (ad := ad) kk cap j rfl hjl
            have HS2 : Hid (∀ j' u, (enL m2)[j']? = some u → wr.cell? ((ad.add (j * 15)).add j') = some u) := a3
            have HC : Hid (clB m.ac m2.ac = false) := (S3.out j m2 (by have := HKK.out; omega) a2).2
            clear a2 a3
            go_upto_region 33 with (first
              | (refine step_ldat 62 _ rfl rfl (ad.add (j * 15)) (by rfl) (enL m2) _ Try.underlying62 rfl (by kernel_rfl) HS2.out ?_)
              | (refine step_alL (by rfl) 62 rfl (enL zMb).toArray (fun u => by kernel_rfl) ?_; intro w6 h7 H7)
              | (refine step_stL (by rfl) _ _ rfl h7 (enL m2).toArray (by rfl) (by rfl) (enL zMb).toArray (by kernel_rfl) (by kernel_rfl) (by kernel_rfl) H7.out.bk ?_; intro w7 H8))
            have H9 : Hid (Below w1.heap.size w1 w7 ∧ Bk g w7 (enL m).toArray 62 ∧ Bk h7 w7 (enL m2).toArray 62) := by
              have hb := H8.out.below H7.out.be H7.out.be.size (Nat.le_of_eq H7.out.at'.symm)
              exact ⟨below_thru HJ.out.1 hb, HJ.out.2.kept (hb.block _ HJ.out.2.lt), H8.out.bk⟩
            clear H7 H8 HJ HS2
            have c1 : w7.cell? ⟨g, 1, none⟩ = some (.int .i64 m.ac.kind) := H9.out.2.1.cell 1
            have c2 : w7.cell? ⟨g, 2, none⟩ = some (.int .u32 m.ac.addr) := H9.out.2.1.cell 2
            have e1 : w7.cell? ⟨h7, 1, none⟩ = some (.int .i64 m2.ac.kind) := H9.out.2.2.cell 1
            have e2 : w7.cell? ⟨h7, 2, none⟩ = some (.int .u32 m2.ac.addr) := H9.out.2.2.cell 2
            by_cases had : m.ac.addr = m2.ac.addr
            · rw [had] at c2
              have hne : ¬ decide (m.ac.kind = 6) = decide (m2.ac.kind = 6) := fun h => by
                have := HC.out
                unfold clB at this
                rw [had, h] at this
                simp at this
              have hcs : (m.ac.kind = 6 ∧ ¬ m2.ac.kind = 6) ∨ (¬ m.ac.kind = 6 ∧ m2.ac.kind = 6) := by
                by_cases h1 : m.ac.kind = 6 <;> by_cases h2 : m2.ac.kind = 6
                · rw [decide_eq_true h1, decide_eq_true h2] at hne; exact absurd rfl hne
                · exact .inl ⟨h1, h2⟩
                · exact .inr ⟨h1, h2⟩
                · rw [decide_eq_false h1, decide_eq_false h2] at hne; exact absurd rfl hne
              clear hne had
              rcases hcs with ⟨k1, k2⟩ | ⟨k1, k2⟩
              · rw [k1] at c1
                have k3 : (m2.ac.kind == 6) = false := by simpa using k2
                clear k1
                go_wp2_with fail
                go_roundw
                case rel => exact ⟨j + 1, by go_num, by omega, ⟨H9.out.1, H9.out.2.1⟩⟩
                case measure => simp [intOf]; omega
              · rw [k2] at e1
                have k3 : (m.ac.kind == 6) = false := by simpa using k1
                clear k2
                go_wp2_with fail
                go_roundw
                case rel => exact ⟨j + 1, by go_num, by omega, ⟨H9.out.1, H9.out.2.1⟩⟩
                case measure => simp [intOf]; omega
            · have k3 : (m.ac.addr == m2.ac.addr) = false := by simpa using had
              go_wp2_with fail
              go_roundw
              case rel => exact ⟨j + 1, by go_num, by omega, ⟨H9.out.1, H9.out.2.1⟩⟩
              case measure => simp [intOf]; omega
          · go_wp2_with fail
            go_roundw
            case rel => exact ⟨kk + 1, by go_num, by omega, HJ.out.1⟩
            case measure => have := HKK.out; simp [intOf]; omega
    · go_wp2_with fail
      obtain ⟨w2, hw2⟩ : ∃ w2, w2 = wr := ⟨_, rfl⟩
      subst hw2
      have H2 : Hid (Bd w w2 q ms xs gc cf) := H1.out.1.below HB.out
      obtain ⟨ao2, cap2, hav, _, hrow2⟩ := HI.out.2.2.1
      obtain ⟨L, hL⟩ : ∃ L, xs.length = L := ⟨_, rfl⟩
      rw [List.length_map, hL] at hav hrow2
      have HR2 : Hid (∀ i, i < L → ∃ ad, ao2 = some ad ∧ ad.block < w.heap.size ∧ ∀ j u, ((xs.map asL).getD i [])[j]? = some u → w.cell? (ad.add (i * 12 + j)) = some u) := hrow2
      have HL : Hid (xs.length = L) := hL
      have hL16 : (L : Int) ≤ 16 := by have := HI.out.2.2.2; omega
      have c0 : w2.cell? ⟨gc, 0, none⟩ = some (.slice ao2 L cap2) := by rw [(H2.out.tw.bk (gc, cf, 29) (by simp)).1.cell 0, List.getElem?_toArray, ← hav]; exact HI.out.2.1.as0
      clear hrow2 hL hav RowAt Say H1 HB hk hlt hn16 hcap2 HN
      rw [hR.out]
      clear hR
      go_wp2_with fail
      go_loopw [184] (fun i wr => ∃ (k : Nat), i = .int .i64 k ∧ (k : Int) ≤ L ∧ Hid (Bd w wr q ms xs gc cf)) (fun i _ => L - (intOf i).toNat)
      case atStart => exact ⟨0, rfl, by omega, H2⟩
      case round =>
        obtain ⟨k, rfl, hk, HK⟩ := hrel
        clear c0 H2
        by_cases hlt : (k : Int) < L
        · obtain ⟨ad, g1', g2', g3'⟩ := HR2.out k (by omega)
          have hix := ix_as L cap2 k g1' hlt
          have hkl : k < xs.length := by rw [HL.out]; omega
          obtain ⟨a, ha⟩ : ∃ a, a = xs[k] := ⟨_, rfl⟩
          have hak : xs[k]? = some a := by rw [List.getElem?_eq_getElem hkl, ha]
          have HS : Hid (∀ j u, (asL a)[j]? = some u → wr.cell? ((ad.add (k * 12)).add j) = some u) := fun j u hu => by
            rw [add_add, HK.out.tw.be.cell (p := ad.add (k * 12 + j)) (by rw [add_block]; exact g2')]
            refine g3' j u ?_
            rw [List.getD_eq_getElem?_getD, List.getElem?_map, hak]
            exact hu
          obtain ⟨m, b1, b2, b3, b4⟩ := HK.out.bp.conf k a hak
          have hat : atM ms ((k : Int) + 1) = some m := by rw [atM_at k (by omega)]; exact at0_some.2 b1
          have HG : Hid (∀ u, Tb u q ms → Calls Try.prog 18 #[.pointer (some ⟨q, 0, none⟩), .int .i64 ((k : Int) + 1)] u fun e w' => e = .returned (.tuple #[.agg (enL m).toArray, .bool true]) ∧ Below u.heap.size u w') := fun u hu => by
            have := get_any q ms ((k : Int) + 1) u hu
            rw [(get_at hat).1, (get_at hat).2] at this
            exact this
          have HM : Hid (m.ac = a ∧ m.par = 0 ∧ m.ends = 0) := ⟨b2, b3, b4⟩
          have l1 : (k : Int) + 1 ≤ 16 := by omega
          clear g1' g2' g3' ha hkl hak b1 b2 b3 b4 hat
          go_upto_region 41 with (first
            | (refine step_ldat 41 _ rfl rfl (ad.add (k * 12)) (by rfl) (asL a) _ Try.underlying41 rfl (by kernel_rfl) HS.out ?_)
            | (refine step_alL (by rfl) 41 rfl (asL zAs).toArray (fun u => by kernel_rfl) ?_; intro w3 g3 H3)
            | (refine step_stL (by rfl) _ _ rfl g3 (asL a).toArray (by rfl) (by rfl) (asL zAs).toArray (by kernel_rfl) (by kernel_rfl) (by kernel_rfl) H3.out.bk ?_; intro w4 H4; have H5 : Hid (Bd w w4 q ms xs gc cf ∧ Bk g3 w4 (asL a).toArray 41) := ⟨HK.out.below (H4.out.below H3.out.be H3.out.be.size (Nat.le_of_eq H3.out.at'.symm)), H4.out.bk⟩)
            | (go_at_call 18; refine (HG.out w4 H5.out.1.tw.tb).mono ?_; rintro e w5 ⟨rfl, hb5⟩; have H6 : Hid (Bd w w5 q ms xs gc cf ∧ Bk g3 w5 (asL a).toArray 41) := ⟨H5.out.1.below hb5, H5.out.2.kept (hb5.block _ H5.out.2.lt)⟩; clear hb5)
            | (refine step_alL (by rfl) 62 rfl (enL zMb).toArray (fun u => by kernel_rfl) ?_; intro w6 g6 H7)
            | (refine step_stL (by rfl) _ _ rfl g6 (enL m).toArray (by rfl) (by rfl) (enL zMb).toArray (by kernel_rfl) (by kernel_rfl) (by kernel_rfl) H7.out.bk ?_; intro w7 H8))
          have H9 : Hid (Bd w w7 q ms xs gc cf ∧ Bk g3 w7 (asL a).toArray 41 ∧ Bk g6 w7 (enL m).toArray 62) := by
            have hb := H8.out.below H7.out.be H7.out.be.size (Nat.le_of_eq H7.out.at'.symm)
            exact ⟨H6.out.1.below hb, H6.out.2.kept (hb.block _ H6.out.2.lt), H8.out.bk⟩
          clear H3 H4 H5 H6 H7 H8 HS HK hix
          have c13 : w7.cell? ⟨g6, 13, none⟩ = some (.int .i64 0) := by rw [← HM.out.2.1]; exact H9.out.2.2.cell 13
          have c14 : w7.cell? ⟨g6, 14, none⟩ = some (.int .i64 0) := by rw [← HM.out.2.2]; exact H9.out.2.2.cell 14
          have HA1 : Hid (∀ j u, (asL a)[j]? = some u → w7.cell? ((⟨g3, 0, none⟩ : Addr).add j) = some u) := cells_of (l := asL a) H9.out.2.1
          have HA2 : Hid (∀ j u, (asL a)[j]? = some u → w7.cell? ((⟨g6, 1, none⟩ : Addr).add j) = some u) := fun j u hu => by
            have hj : j < 12 := by
              rcases Nat.lt_or_ge j 12 with h | h
              · exact h
              · rw [List.getElem?_eq_none (by simpa [asL] using h)] at hu; cases hu
            rw [own_add, H9.out.2.2.cell, Nat.add_comm]
            rw [← HM.out.1] at hu
            rcases (show j = 0 ∨ j = 1 ∨ j = 2 ∨ j = 3 ∨ j = 4 ∨ j = 5 ∨ j = 6 ∨ j = 7 ∨ j = 8 ∨ j = 9 ∨ j = 10 ∨ j = 11 by omega) with rfl | rfl | rfl | rfl | rfl | rfl | rfl | rfl | rfl | rfl | rfl | rfl <;> simpa [asL, enL] using hu
          go_wp2_with (first
            | (refine step_ldat 41 _ rfl rfl ⟨g6, 1, none⟩ (by rfl) (asL a) _ Try.underlying41 rfl (by kernel_rfl) HA2.out ?_)
            | (refine step_ldat 41 _ rfl rfl ⟨g3, 0, none⟩ (by rfl) (asL a) _ Try.underlying41 rfl (by kernel_rfl) HA1.out ?_)
            | (refine step_ldatW 41 _ rfl rfl ⟨g6, 1, none⟩ (by rfl) (asL a) _ Try.underlying41 rfl (by kernel_rfl) HA2.out ?_)
            | (refine step_ldatW 41 _ rfl rfl ⟨g3, 0, none⟩ (by rfl) (asL a) _ Try.underlying41 rfl (by kernel_rfl) HA1.out ?_)
            | (refine step_neq (by rfl) _ _ rfl a (by rfl) (by rfl) ?_))
          go_roundw
          case rel => exact ⟨k + 1, by go_num, by omega, H9.out.1⟩
          case measure => simp [intOf]; omega
        · go_wp2_with fail
          exact HE.out _ _ _ _ _ _ _ _ _ _ _ _ _ _ _ _ _ _ _ _ _ _ _ _ _ _ _ _ _ _ _ _ _ _ _ _ _ _ _ _ _ _ _ _ _ _ _ _ _ _ _ _ _ _ _ _ _ _ _ _ _ _ _ _ _ _ _ _ _ _ _ _ _ _ _ _ _ _ _ _ _ _ _ _ _ _ _ _ _ _ _ _ _ _ _ _ _ _ _ _ _ _ _ _ _ _ _ HK.out
end Go.Proofs.Ytnjdmkgkpdebdaa
