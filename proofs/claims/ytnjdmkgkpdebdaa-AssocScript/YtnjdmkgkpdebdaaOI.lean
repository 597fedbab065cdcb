/- assoc: the reference's Route. -/
import Derived.Test.YtnjdmkgkpdebdaaOH
import Derived.Test.YtnjdmkgkpdebdaaGQ
namespace Go.Proofs.Ytnjdmkgkpdebdaa
open Go Go.RowKit Go.Sort
set_option linter.unusedVariables false
def rrWays (f : Go.Func) : Code := dropSeq' 6 (f.body.getD .skip)
def rwA (l : List Mb) (D to nos : Int) (nb df ls mc : Bool) : Int := if D = 2 then 2 else if D = 1 then (if nos ≠ 0 then 0 else if nb = true then 0 else if rgB to = false then 1 else if mc = true then 6 else 0) else if D = 3 then (if df = true then 0 else if nb = true then 0 else 3) else if D = 4 then (if df = true then 0 else if ls = true then 4 else 0) else if D = 5 then (if df = true then 0 else if fdF (fun m => srB m.ac) l ≠ 0 then 5 else 0) else 0
def rwI (l : List Mb) (D n : Int) (df : Bool) : Int := if D = 2 then n else if D = 5 then (if df = true then 0 else fdF (fun m => srB m.ac) l) else 0
theorem fdF_zero {p : Mb → Bool} {l : List Mb} (hid : ∀ m ∈ l, m.id ≠ 0) (h : fdF p l = 0) : ∀ m ∈ l, p m = false := by
  induction l with
  | nil => intro m hm; cases hm
  | cons n t ih =>
    rw [fdF] at h
    split at h
    · exact absurd h (hid n (by simp))
    · rename_i hn
      intro m hm
      rcases List.mem_cons.1 hm with rfl | hm
      · simpa using hn
      · exact ih (fun m hm => hid m (by simp [hm])) h m hm
set_option maxRecDepth 40000 in
set_option maxHeartbeats 4000000 in
theorem rr_ways {c : Code} (hcode : c = (rrWays Try.f32)) {v1 v2 v3 v6 v7 v9 v10 v11 v12 v13 v14 v15 v17 v18 v22 v23 v24 v25 v26 v27 v28 v29 v30 v31 v32 v33 v34 v35 v36 v37 v38 v39 v40 v41 v42 v43 v44 v45 v46 v47 v48 v49 v50 v51 v52 v53 v54 v55 v56 v57 v58 v59 v60 v61 v62 v63 v64 v65 v66 v67 v68 v69 v70 v71 v72 v73 v74 v75 v76 v77 v78 v79 v80 v81 v82 v83 v84 v85 v86 v87 v88 v89 v90 v91 v92 v93 v94 v95 v96 v97 v98 v99 v100 v101 v102 v103 v104 v105 v106 v107 v108 v109 v110 v111 v112 v113 v114 v115 v116 v117 v118 v119 v120 v121 v122 v123 v124 v125 v126 v127 v128 v129 : Value} (dfr : List Deferred) (W : World) (d B gc : Nat) (l : List Mb) (cf : List Value) (av : Value) (ls mc nb df : Bool) (to flags n D : Int) (K : Exit → Act → World → Prop) (hT : Rt W d B l) (hg : Bk gc W cf.toArray 29) (hc : Cf cf av ls mc) (hid : ∀ m ∈ l, m.id ≠ 0)
    (hend : ∀ tm' W', tm'.getD 14 undef = .int .i64 (rwA l D to (bits .and .i64 flags 1) nb df ls mc) → tm'.getD 15 undef = .int .i64 (rwI l D n df) → Below W.heap.size W W' → K .ret { tmps := tm', defers := dfr } W') : Code.wp Try.prog c K { tmps := ((Value.pointer (some ⟨d, 0, none⟩)) :: v1 :: v2 :: v3 :: (Value.int .u32 to) :: (Value.int .i64 flags) :: v6 :: v7 :: (Value.pointer (some ⟨gc, 0, none⟩)) :: v9 :: v10 :: v11 :: v12 :: v13 :: v14 :: v15 :: (Value.int .i64 n) :: v17 :: v18 :: (Value.int .i64 D) :: (Value.bool nb) :: (Value.bool df) :: v22 :: v23 :: v24 :: v25 :: v26 :: v27 :: v28 :: v29 :: v30 :: v31 :: v32 :: v33 :: v34 :: v35 :: v36 :: v37 :: v38 :: v39 :: v40 :: v41 :: v42 :: v43 :: v44 :: v45 :: v46 :: v47 :: v48 :: v49 :: v50 :: v51 :: v52 :: v53 :: v54 :: v55 :: v56 :: v57 :: v58 :: v59 :: v60 :: v61 :: v62 :: v63 :: v64 :: v65 :: v66 :: v67 :: v68 :: v69 :: v70 :: v71 :: v72 :: v73 :: v74 :: v75 :: v76 :: v77 :: v78 :: v79 :: v80 :: v81 :: v82 :: v83 :: v84 :: v85 :: v86 :: v87 :: v88 :: v89 :: v90 :: v91 :: v92 :: v93 :: v94 :: v95 :: v96 :: v97 :: v98 :: v99 :: v100 :: v101 :: v102 :: v103 :: v104 :: v105 :: v106 :: v107 :: v108 :: v109 :: v110 :: v111 :: v112 :: v113 :: v114 :: v115 :: v116 :: v117 :: v118 :: v119 :: v120 :: v121 :: v122 :: v123 :: v124 :: v125 :: v126 :: v127 :: v128 :: v129 :: []).toArray, defers := dfr } W := by
  obtain ⟨N1, hN1⟩ : ∃ N, bits .and .i64 flags 1 = N := ⟨_, rfl⟩
  rw [hN1] at hend
  obtain ⟨A, hA⟩ : ∃ A, rwA l D to N1 nb df ls mc = A := ⟨_, rfl⟩
  obtain ⟨I, hI⟩ : ∃ I, rwI l D n df = I := ⟨_, rfl⟩
  rw [hA, hI] at hend
  have HA : Hid (A = rwA l D to N1 nb df ls mc) := hA.symm
  have HI : Hid (I = rwI l D n df) := hI.symm
  clear hA hI
  have HE : Hid (∀ tm' W', tm'.getD 14 undef = .int .i64 A → tm'.getD 15 undef = .int .i64 I → Below W.heap.size W W' → K .ret { tmps := tm', defers := dfr } W') := hend
  have HX : Hid (Rt W d B l ∧ ∀ m ∈ l, m.id ≠ 0) := ⟨hT, hid⟩
  have c8 : W.cell? ⟨gc, 8, none⟩ = some (.bool ls) := by rw [hg.cell 8, List.getElem?_toArray]; exact hc.lis
  have c9 : W.cell? ⟨gc, 9, none⟩ = some (.bool mc) := by rw [hg.cell 9, List.getElem?_toArray]; exact hc.man
  clear hend hT hg hc hid
  subst hcode
  unfold rrWays Try.f32
  simp only [dropSeq', Option.getD_some]
  by_cases d2 : D = 2
  · subst d2
    go_wp2_with fail
    exact HE.out _ _ (by rw [HA.out]; rfl) (by rw [HI.out]; rfl) (Below.refl _ _)
  have n2 : (D == 2) = false := by simpa using d2
  by_cases d1 : D = 1
  · subst d1
    by_cases h0 : N1 = 0
    · subst h0
      obtain ⟨G, hG⟩ : ∃ G, rgB to = G := ⟨_, rfl⟩
      have HG : Hid (rgB to = G) := hG
      have CG : Hid (∀ u, Calls Try.prog 55 #[.int .u32 to] u fun e w' => e = .returned (.bool G) ∧ w' = u) := fun u => by rw [← hG]; exact group_any to u
      clear hG
      cases nb <;> cases G <;> cases mc
      all_goals
        go_wp2_with (go_at_call 55; refine (CG.out _).mono ?_; rintro e w5 ⟨rfl, hw5⟩; rw [hw5]; clear hw5)
        exact HE.out _ _ (by rw [HA.out]; unfold rwA; rw [HG.out]; rfl) (by rw [HI.out]; rfl) (Below.refl _ _)
    · have h1 : (N1 == 0) = false := by simpa using h0
      have h2 : (N1 != 0) = true := by simpa using h0
      go_wp2_with fail
      exact HE.out _ _ (by rw [HA.out]; unfold rwA; rw [if_neg (by decide), if_pos rfl, if_pos h0]; rfl) (by rw [HI.out]; rfl) (Below.refl _ _)
  have n1 : (D == 1) = false := by simpa using d1
  by_cases d3 : D = 3
  · subst d3
    cases df <;> cases nb
    all_goals
      go_wp2_with fail
      exact HE.out _ _ (by rw [HA.out]; rfl) (by rw [HI.out]; rfl) (Below.refl _ _)
  have n3 : (D == 3) = false := by simpa using d3
  by_cases d4 : D = 4
  · subst d4
    cases df <;> cases ls
    all_goals
      go_wp2_with fail
      exact HE.out _ _ (by rw [HA.out]; rfl) (by rw [HI.out]; rfl) (Below.refl _ _)
  have n4 : (D == 4) = false := by simpa using d4
  by_cases d5 : D = 5
  · subst d5
    clear d2 n2 d1 n1 d3 n3 d4 n4 c8 c9
    obtain ⟨ao, cap, hb, hr⟩ := HX.out.1.read
    have HR : Hid (∀ w', Below W.heap.size W w' → ∀ i m, l[i]? = some m → ∃ ad, ao = some ad ∧ ∀ j u, (mbL m)[j]? = some u → w'.cell? ((ad.add (i * 16)).add j) = some u) := hr
    obtain ⟨k0, hk0⟩ : ∃ n, l.length = n := ⟨_, rfl⟩
    have HN : Hid (l.length = k0) := hk0
    have hn16 : (k0 : Int) ≤ 16 := by have := HX.out.1.len; omega
    rw [hk0] at hb
    have c0 : W.cell? ⟨d, 0, none⟩ = some (.slice ao k0 cap) := hb.cell 0
    clear hr hk0 hb
    go_wp2_with fail
    go_loopw [106] (fun i wr => ∃ (k : Nat), i = .int .i64 k ∧ (k : Int) ≤ k0 ∧ Hid (Below W.heap.size W wr ∧ (df = false → fdF (fun m => srB m.ac) l = fdF (fun m => srB m.ac) (l.drop k)))) (fun i _ => k0 - (intOf i).toNat)
    case atStart => exact ⟨0, rfl, by omega, ⟨Below.refl _ _, fun _ => rfl⟩⟩
    case round =>
      obtain ⟨k, rfl, hk, HB⟩ := hrel
      by_cases hlt : (k : Int) < k0
      · have hkl : k < l.length := by rw [HN.out]; omega
        obtain ⟨m, hm⟩ : ∃ m, l[k]? = some m := ⟨_, List.getElem?_eq_getElem hkl⟩
        obtain ⟨ad, g1, g3⟩ := HR.out wr HB.out.1 k m hm
        have hix := ix_rw k0 cap k g1 hlt
        have HS : Hid (∀ j u, (mbL m)[j]? = some u → wr.cell? ((ad.add (k * 16)).add j) = some u) := g3
        have HD : Hid (l.drop k = m :: l.drop (k + 1) ∧ m ∈ l) := ⟨ldrop hm, List.mem_of_getElem? hm⟩
        clear g1 g3 hm hkl c0
        go_upto_region 29 with (first
          | (refine step_ldat 83 _ rfl rfl (ad.add (k * 16)) (by rfl) (mbL m) _ Try.underlying83 rfl (by kernel_rfl) HS.out ?_)
          | (refine step_alL (by rfl) 83 rfl (mbL zMb).toArray (fun u => by kernel_rfl) ?_; intro w3 h3 H3)
          | (refine step_stL (by rfl) _ _ rfl h3 (mbL m).toArray (by rfl) (by rfl) (mbL zMb).toArray (by kernel_rfl) (by kernel_rfl) (by kernel_rfl) H3.out.bk ?_; intro w4 H4))
        have H5 : Hid (Below W.heap.size W w4 ∧ Bk h3 w4 (mbL m).toArray 83) := ⟨below_thru HB.out.1 (H4.out.below H3.out.be H3.out.be.size (Nat.le_of_eq H3.out.at'.symm)), H4.out.bk⟩
        clear H3 H4 HS
        have e0 : w4.cell? ⟨h3, 0, none⟩ = some (.int .i64 m.id) := H5.out.2.cell 0
        have e1 : w4.cell? ⟨h3, 1, none⟩ = some (.int .i64 m.ac.kind) := H5.out.2.cell 1
        cases df
        · have hs : (m.ac.kind = 4 ∧ srB m.ac = true) ∨ (m.ac.kind = 5 ∧ srB m.ac = true) ∨ (m.ac.kind ≠ 4 ∧ m.ac.kind ≠ 5 ∧ srB m.ac = false) := by
            unfold srB
            by_cases h4 : m.ac.kind = 4
            · exact .inl ⟨h4, by simp [h4]⟩
            · by_cases h5 : m.ac.kind = 5
              · exact .inr (.inl ⟨h5, by simp [h5]⟩)
              · exact .inr (.inr ⟨h4, h5, by simp [h4, h5]⟩)
          have fin : Hid (srB m.ac = true → A = 5 ∧ I = m.id) := fun hb => by
            have h1 := HB.out.2 rfl
            rw [HD.out.1, fdF, if_pos hb] at h1
            rw [HA.out, HI.out]
            unfold rwA rwI
            rw [h1]
            have h2 := HX.out.2 m HD.out.2
            simp [h2]
          rcases hs with ⟨h4, hb⟩ | ⟨h5, hb⟩ | ⟨h4, h5, hb⟩
          · rw [h4] at e1
            have hf := fin.out hb
            clear hb
            go_upto_region 30 with fail
            go_wp2_with fail
            refine wp_region_quietW (by kernel_rfl) (by kernel_rfl) ?_
            repeat (refine qw_step (fun K hK => ?_); go_simp; refine hK _ ?_; clear hK K)
            refine qw_nil ?_
            intro w5 hw'
            obtain ⟨nq, hw''⟩ := hw'
            have H6 : Hid (Below W.heap.size W w5) := by rw [hw'']; exact below_dr H5.out.1 nq
            clear hw''
            go_wp2_with fail
            exact HE.out _ _ (by rw [hf.1]; rfl) (by rw [hf.2]; rfl) H6.out
          · rw [h5] at e1
            have hf := fin.out hb
            clear hb
            go_upto_region 30 with fail
            go_wp2_with fail
            refine wp_region_quietW (by kernel_rfl) (by kernel_rfl) ?_
            repeat (refine qw_step (fun K hK => ?_); go_simp; refine hK _ ?_; clear hK K)
            refine qw_nil ?_
            intro w5 hw'
            obtain ⟨nq, hw''⟩ := hw'
            have H6 : Hid (Below W.heap.size W w5) := by rw [hw'']; exact below_dr H5.out.1 nq
            clear hw''
            go_wp2_with fail
            exact HE.out _ _ (by rw [hf.1]; rfl) (by rw [hf.2]; rfl) H6.out
          · have h41 : (m.ac.kind == 4) = false := by simpa using h4
            have h51 : (m.ac.kind == 5) = false := by simpa using h5
            go_wp2_with fail
            go_roundw
            case rel => exact ⟨k + 1, by go_num, by omega, ⟨H5.out.1, fun _ => by rw [HB.out.2 rfl, HD.out.1, fdF, if_neg (by rw [hb]; decide)]⟩⟩
            case measure => simp [intOf]; omega
        · go_wp2_with fail
          go_roundw
          case rel => exact ⟨k + 1, by go_num, by omega, ⟨H5.out.1, fun h => by cases h⟩⟩
          case measure => simp [intOf]; omega
      · have hz : A = 0 ∧ I = 0 := by
          rw [HA.out, HI.out]
          unfold rwA rwI
          cases df
          · have h1 := HB.out.2 rfl
            rw [List.drop_eq_nil_of_le (by rw [HN.out]; omega)] at h1
            rw [h1]
            simp [fdF]
          · simp
        have HZ : Hid (A = 0 ∧ I = 0) := hz
        clear hz
        go_wp2_with fail
        exact HE.out _ _ (by rw [HZ.out.1]; rfl) (by rw [HZ.out.2]; rfl) HB.out.1
  have n5 : (D == 5) = false := by simpa using d5
  go_wp2_with fail
  exact HE.out _ _ (by rw [HA.out]; unfold rwA; rw [if_neg d2, if_neg d1, if_neg d3, if_neg d4, if_neg d5]; rfl) (by rw [HI.out]; unfold rwI; rw [if_neg d2, if_neg d5]; rfl) (Below.refl _ _)
end Go.Proofs.Ytnjdmkgkpdebdaa
