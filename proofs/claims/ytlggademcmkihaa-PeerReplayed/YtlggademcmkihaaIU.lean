/- PeerReplayed, walked. -/
import Derived.Test.YtlggademcmkihaaIUp
namespace Go.Proofs.Ytlggademcmkihaa
open Go Go.RowKit Go.Sort Go.Maps
set_option maxRecDepth 20000 in
set_option maxHeartbeats 20000000 in
theorem PeerReplayed_row (a : As) (own : Int) (v pv : Value) (xs : List Stp) (ks : List Int) (w : World) (hk : W64 a.kind) (hv : Sx w.heap.size w v xs) (hp : Si w.heap.size w pv ks) (hroom : xs.length * 168 ≤ 140737488355328) :
    Calls Try.prog 8 #[.agg (asL a).toArray, .int .u32 own, v, pv] w fun e w' => e = .returned (.bool true) ∧ Below w.heap.size w w' := by
  obtain ⟨ao, cap, rfl, -⟩ := hv.ex
  obtain ⟨n, hn⟩ : ∃ n, n = xs.length := ⟨_, rfl⟩
  rw [← hn] at hv ⊢
  have hnb : (n : Int) ≤ 9223372036854775807 := by have := hv.len; omega
  have HV : Hid (Sx w.heap.size w (.slice ao n cap) xs ∧ n = xs.length ∧ xs.length * 168 ≤ 140737488355328) := ⟨hv, hn, hroom⟩
  have HA : Hid (okS (ps0 a.kind a.key own)) := ⟨hk, by simp [ps0], fun _ => ⟨rfl, rfl⟩⟩
  obtain ⟨po, pc, rfl, -⟩ := hp.ex
  obtain ⟨kn, hkn⟩ : ∃ n, n = ks.length := ⟨_, rfl⟩
  rw [← hkn] at hp ⊢
  have hknb : (kn : Int) ≤ 9223372036854775807 := by have := hp.len; omega
  have HPk : Hid (Si w.heap.size w (.slice po kn pc) ks ∧ kn = ks.length) := ⟨hp, hkn⟩
  clear hv hn hk hroom hp hkn
  go_enter Try.func8, Try.ntmps8
  refine post_hid fun Q hQ => ?_
  refine seq_hid fun R hR => ?_
  go_wp2_with fail
  refine world_hid fun W hW => ?_
  have HW : Hid (Bk w.heap.size W (asL a).toArray 31 ∧ Below w.heap.size w W) := by
    rw [hW.out]
    exact ⟨Bk.new _ _ _, (Below.refl _ _).alloc (Nat.le_refl _) _⟩
  clear hW
  rw [hR.out]
  clear hR
  refine seq_hid fun R hR => ?_
  go_wp2_with (go_at_call 10; refine (shown_any _).mono ?_; rintro e w2 ⟨rfl, hb1⟩; have HW2 : Hid (Bk w.heap.size w2 (asL a).toArray 31 ∧ Below w.heap.size w w2) := ⟨HW.out.1.kept (hb1.block _ HW.out.1.lt), HW.out.2.trans (hb1.mono HW.out.2.size)⟩; clear hb1)
  rw [hR.out]
  clear hR HW
  refine seq_hid fun R hR => ?_
  have c0 : w2.cell? ⟨w.heap.size, 0, none⟩ = some (.int .i64 a.kind) := HW2.out.1.cell 0
  have c1 : w2.cell? ⟨w.heap.size, 1, none⟩ = some (.int .u32 a.addr) := HW2.out.1.cell 1
  have c2 : w2.cell? ⟨w.heap.size, 2, none⟩ = some (.int .i64 a.key) := HW2.out.1.cell 2
  have c3 : w2.cell? ⟨w.heap.size, 3, none⟩ = some (.int .i64 a.minp) := HW2.out.1.cell 3
  have c4 : w2.cell? ⟨w.heap.size, 4, none⟩ = some (.int .i64 a.maxp) := HW2.out.1.cell 4
  have c5 : w2.cell? ⟨w.heap.size, 5, none⟩ = some (.bool a.burst) := HW2.out.1.cell 5
  have c6 : w2.cell? ⟨w.heap.size, 6, none⟩ = some (.bool a.ib) := HW2.out.1.cell 6
  have c7 : w2.cell? ⟨w.heap.size, 7, none⟩ = some (.bool a.pref) := HW2.out.1.cell 7
  have c8 : w2.cell? ⟨w.heap.size, 8, none⟩ = some (.int .i64 a.ttl) := HW2.out.1.cell 8
  have c9 : w2.cell? ⟨w.heap.size, 9, none⟩ = some (.bool a.pulse) := HW2.out.1.cell 9
  have c10 : w2.cell? ⟨w.heap.size, 10, none⟩ = some (.int .i64 a.fudge) := HW2.out.1.cell 10
  have c11 : w2.cell? ⟨w.heap.size, 11, none⟩ = some (.int .i64 a.str) := HW2.out.1.cell 11
  go_wp2_with fail
  go_region_held3 (fun w' => w'.cell? ⟨w.heap.size, 0, none⟩ = some (.int .i64 a.kind) ∧ w'.cell? ⟨w.heap.size, 1, none⟩ = some (.int .u32 a.addr) ∧ w'.cell? ⟨w.heap.size, 2, none⟩ = some (.int .i64 a.key) ∧ w'.cell? ⟨w.heap.size, 3, none⟩ = some (.int .i64 a.minp) ∧ w'.cell? ⟨w.heap.size, 4, none⟩ = some (.int .i64 a.maxp) ∧ w'.cell? ⟨w.heap.size, 5, none⟩ = some (.bool a.burst) ∧ w'.cell? ⟨w.heap.size, 6, none⟩ = some (.bool a.ib) ∧ w'.cell? ⟨w.heap.size, 7, none⟩ = some (.bool a.pref) ∧ w'.cell? ⟨w.heap.size, 8, none⟩ = some (.int .i64 a.ttl) ∧ w'.cell? ⟨w.heap.size, 9, none⟩ = some (.bool a.pulse) ∧ w'.cell? ⟨w.heap.size, 10, none⟩ = some (.int .i64 a.fudge) ∧ w'.cell? ⟨w.heap.size, 11, none⟩ = some (.int .i64 a.str)) (first | with_reducible exact ⟨c0, c1, c2, c3, c4, c5, c6, c7, c8, c9, c10, c11⟩ | with_reducible exact ⟨d0, d1, d2, d3, d4, d5, d6, d7, d8, d9, d10, d11⟩ | with_reducible exact ⟨e0, e1, e2, e3, e4, e5, e6, e7, e8, e9, e10, e11⟩ | go_keep) (first
    | (go_at_call 11; have hh := HN3; refine (new_any a own _).mono ?_; rintro e w4 ⟨q, rfl, hq4, hl4, hb4⟩; have HB4 : Hid (Bk w.heap.size w4 (asL a).toArray 31) := (HB3.out.kept (hb4.block _ HB3.out.lt)); have e0 : w4.cell? ⟨w.heap.size, 0, none⟩ = some (.int .i64 a.kind) := HB4.out.cell 0; have e1 : w4.cell? ⟨w.heap.size, 1, none⟩ = some (.int .u32 a.addr) := HB4.out.cell 1; have e2 : w4.cell? ⟨w.heap.size, 2, none⟩ = some (.int .i64 a.key) := HB4.out.cell 2; have e3 : w4.cell? ⟨w.heap.size, 3, none⟩ = some (.int .i64 a.minp) := HB4.out.cell 3; have e4 : w4.cell? ⟨w.heap.size, 4, none⟩ = some (.int .i64 a.maxp) := HB4.out.cell 4; have e5 : w4.cell? ⟨w.heap.size, 5, none⟩ = some (.bool a.burst) := HB4.out.cell 5; have e6 : w4.cell? ⟨w.heap.size, 6, none⟩ = some (.bool a.ib) := HB4.out.cell 6; have e7 : w4.cell? ⟨w.heap.size, 7, none⟩ = some (.bool a.pref) := HB4.out.cell 7; have e8 : w4.cell? ⟨w.heap.size, 8, none⟩ = some (.int .i64 a.ttl) := HB4.out.cell 8; have e9 : w4.cell? ⟨w.heap.size, 9, none⟩ = some (.bool a.pulse) := HB4.out.cell 9; have e10 : w4.cell? ⟨w.heap.size, 10, none⟩ = some (.int .i64 a.fudge) := HB4.out.cell 10; have e11 : w4.cell? ⟨w.heap.size, 11, none⟩ = some (.int .i64 a.str) := HB4.out.cell 11; have HN4 : Hid (Pm w4 q (ps0 a.kind a.key own) ∧ w3.heap.size ≤ q ∧ Below w3.heap.size w3 w4) := ⟨hq4, hl4, hb4⟩; clear hq4 hl4 hb4)
    | (go_at_call 11; refine (new_any a own _).mono ?_; rintro e w3 ⟨p, rfl, hp3, hl3, hb3⟩; have HB3 : Hid (Bk w.heap.size w3 (asL a).toArray 31) := (HW2.out.1.kept (hb3.block _ HW2.out.1.lt)); have d0 : w3.cell? ⟨w.heap.size, 0, none⟩ = some (.int .i64 a.kind) := HB3.out.cell 0; have d1 : w3.cell? ⟨w.heap.size, 1, none⟩ = some (.int .u32 a.addr) := HB3.out.cell 1; have d2 : w3.cell? ⟨w.heap.size, 2, none⟩ = some (.int .i64 a.key) := HB3.out.cell 2; have d3 : w3.cell? ⟨w.heap.size, 3, none⟩ = some (.int .i64 a.minp) := HB3.out.cell 3; have d4 : w3.cell? ⟨w.heap.size, 4, none⟩ = some (.int .i64 a.maxp) := HB3.out.cell 4; have d5 : w3.cell? ⟨w.heap.size, 5, none⟩ = some (.bool a.burst) := HB3.out.cell 5; have d6 : w3.cell? ⟨w.heap.size, 6, none⟩ = some (.bool a.ib) := HB3.out.cell 6; have d7 : w3.cell? ⟨w.heap.size, 7, none⟩ = some (.bool a.pref) := HB3.out.cell 7; have d8 : w3.cell? ⟨w.heap.size, 8, none⟩ = some (.int .i64 a.ttl) := HB3.out.cell 8; have d9 : w3.cell? ⟨w.heap.size, 9, none⟩ = some (.bool a.pulse) := HB3.out.cell 9; have d10 : w3.cell? ⟨w.heap.size, 10, none⟩ = some (.int .i64 a.fudge) := HB3.out.cell 10; have d11 : w3.cell? ⟨w.heap.size, 11, none⟩ = some (.int .i64 a.str) := HB3.out.cell 11; have HN3 : Hid (Pm w3 p (ps0 a.kind a.key own) ∧ w2.heap.size ≤ p ∧ Below w2.heap.size w2 w3) := ⟨hp3, hl3, ⟨hb3.os, hb3.tape, hb3.output, hb3.size, hb3.block⟩⟩; clear hp3 hl3 hb3))
  obtain ⟨s0, hs0⟩ : ∃ s0, ps0 a.kind a.key own = s0 := ⟨_, rfl⟩
  have HF : Hid (Pm w4 p s0 ∧ Pm w4 q s0 ∧ p ≠ q ∧ w.heap.size ≤ p ∧ w.heap.size ≤ q ∧ Below w.heap.size w w4 ∧ okS s0) := by
    rw [← hs0]
    have l1 := HW2.out.2.size
    have l2 := HN3.out.1.lt
    have l3 := HN3.out.2.1
    have l4 := HN4.out.2.1
    exact ⟨HN3.out.1.kept (HN4.out.2.2.block _ l2), HN4.out.1, by omega, by omega, by omega, HW2.out.2.trans ((HN3.out.2.2.trans (HN4.out.2.2.mono HN3.out.2.2.size)).mono l1), HA.out⟩
  have HS0 : Hid (∀ X0, RI X0 (fun _ => false) s0 []) := fun X0 => by rw [← hs0]; exact RI.new _ _ _ _
  clear HN3 HN4 HB3 HB4 HW2 HA hs0 hh c0 c1 c2 c3 c4 c5 c6 c7 c8 c9 c10 c11 d0 d1 d2 d3 d4 d5 d6 d7 d8 d9 d10 d11 e0 e1 e2 e3 e4 e5 e6 e7 e8 e9 e10 e11
  go_wp2_with fail
  rw [hR.out]
  clear hR
  refine seq_hid fun R hR => ?_
  go_wp2_with fail
  refine world_hid fun w5 hw5 => ?_
  have HF5 : Hid (FL w w5 p q w4.heap.size (w4.heap.size + 1) s0 s0 0 0 [] ∧ okS s0 ∧ w4.heap.size + 1 < w5.heap.size) := by
    rw [hw5.out]
    have h1 := Bk.new w4 #[.int .u64 0] 23
    have h2 := Bk.new (w4.alloc (.cells #[.int .u64 0] 23)) #[.int .u64 0] 23
    rw [size_alloc1] at h2
    have hb : Below w4.heap.size w4 ((w4.alloc (.cells #[.int .u64 0] 23)).alloc (.cells #[.int .u64 0] 23)) := ((Below.refl _ _).alloc (Nat.le_refl _) _).alloc (by simp) _
    have l1 := HF.out.1.lt
    have l2 := HF.out.2.1.lt
    have l3 := HF.out.2.2.2.2.2.1.size
    exact ⟨⟨HF.out.1.kept (hb.block _ l1), HF.out.2.1.kept (hb.block _ l2), h1.kept (((Below.refl _ _).alloc (Nat.le_refl _) _).block _ (by simp)), h2, ⟨HF.out.2.2.1, by omega, by omega, by omega, by omega, by omega⟩, ⟨HF.out.2.2.2.1, HF.out.2.2.2.2.1, by omega, by omega⟩, HF.out.2.2.2.2.2.1.trans (hb.mono l3), fun b hb => by cases hb⟩, HF.out.2.2.2.2.2.2, h2.lt⟩
  obtain ⟨X, hX⟩ : ∃ X, w4.heap.size = X := ⟨_, rfl⟩
  rw [hX] at HF5 ⊢
  obtain ⟨Y, hY⟩ : ∃ Y, X + 1 = Y := ⟨_, rfl⟩
  rw [hY] at HF5 ⊢
  clear hw5 hX hY HF
  rw [hR.out]
  clear hR
  have hmm := @run_makeMap Try.prog
  refine seq_hid fun R hR => ?_
  go_wp2_with fail
  rw [hR.out]
  clear hR
  refine seq_hid fun R hR => ?_
  go_wp2_with fail
  clear hmm
  refine world_hid fun w6 hw6 => ?_
  have HR6 : Hid (RL w w6 p q X Y w5.heap.size s0 s0 0 0 0 (fun _ => false) (.slice none 0 0) [] []) := by
    rw [hw6.out]
    have hb : Below w5.heap.size w5 (w5.alloc (.map #[] 0)) := (Below.refl _ _).alloc (Nat.le_refl _) _
    have l1 := HF5.out.1.pp.lt
    have l2 := HF5.out.1.pq.lt
    have l3 := HF5.out.1.bx.lt
    have l4 := HF5.out.1.byy.lt
    exact ⟨HF5.out.1.step hb, Ma.made w5, OR.nil _ _ _ _, ⟨by omega, by omega, by omega, by omega, HF5.out.1.be.size⟩, fun g (hg : none = some g) => (by cases hg), fun b hb => (by cases hb)⟩
  have HOk0 : Hid (okS s0) := HF5.out.2.1
  obtain ⟨M, hM⟩ : ∃ M, w5.heap.size = M := ⟨_, rfl⟩
  rw [hM] at HR6 ⊢
  clear hw6 hM HF5
  rw [hR.out]
  clear hR
  go_wp2_with fail
  obtain ⟨X0, hX0⟩ : ∃ X0, X0 = ((xs.head?.map fun z => z.q.xmt).getD 0) := ⟨_, rfl⟩
  have HX0 : Hid (X0 = ((xs.head?.map fun z => z.q.xmt).getD 0)) := hX0
  clear hX0
  go_loopw [13, 41] (fun tv i wr => ∃ (k : Nat) (s : Ps) (org : Int) (A : Int → Bool) (T : List Pk) (nm : Nat), i = .int .i64 k ∧ (k : Int) ≤ n ∧ Hid (RL w wr p q X Y M s s org org nm A tv T [] ∧ RI X0 A s T ∧ okS s ∧ U64 org ∧ nm ≤ k ∧ T.length ≤ k)) (fun _ i _ => n - (intOf i).toNat)
  case atStart => exact ⟨0, s0, 0, fun _ => false, [], 0, rfl, by omega, ⟨HR6.out, HS0.out X0, HOk0.out, by unfold U64; decide, Nat.le_refl _, Nat.le_refl _⟩⟩
  case round =>
    clear HR6 HS0 HOk0
    obtain ⟨k, s, org, A, T, nm, rfl, hk, HK⟩ := hrel
    obtain ⟨tq, tc, htv⟩ := HK.out.1.tk.shape
    obtain ⟨tn, htn⟩ : ∃ tn, tn = (T.map pkC).length := ⟨_, rfl⟩
    rw [← htn] at htv
    subst htv
    have HTn : Hid (tn = T.length) := by rw [htn]; exact List.length_map pkC
    clear htn
    by_cases hlt : (k : Int) < n
    · have hkx : k < xs.length := by have := HV.out.2.1; omega
      obtain ⟨z, hz⟩ : ∃ z, xs[k]? = some z := ⟨_, List.getElem?_eq_getElem hkx⟩
      have hsx : Sx w.heap.size wr (.slice ao n cap) xs := HV.out.1.below HK.out.1.fl.be (Nat.le_refl _)
      obtain ⟨z0, hz0⟩ : ∃ z, xs[0]? = some z := ⟨_, List.getElem?_eq_getElem (by omega)⟩
      have HX00 : Hid (z0.q.xmt = X0 ∧ okX z0) := by
        refine ⟨?_, hsx.ok z0 (List.mem_of_getElem? hz0)⟩
        rw [HX0.out]
        cases xs with
        | nil => simp at hz0
        | cons c cs => simp at hz0; subst hz0; rfl
      obtain ⟨ad, hix, hab, hac⟩ := hsx.at k z hz
      obtain ⟨ad0, hix0, hab0, hac0⟩ := hsx.at 0 z0 hz0
      have HC : Hid (∀ j u, (spC z)[j]? = some u → wr.cell? (ad.add j) = some u) := hac
      have HC0 : Hid ((∀ u, Sem.run Try.prog (Instr.indexAt 32 (.slice ao n cap) (.int .i64 0)) u = .ok (.pointer (some ad0)) u) ∧ ad0.block < w.heap.size ∧ (∀ j u, (spC z0)[j]? = some u → wr.cell? (ad0.add j) = some u)) := ⟨hix0, hab0, hac0⟩
      have HOz : Hid (okX z) := hsx.ok z (List.mem_of_getElem? hz)
      have HL : Hid (RL w wr p q X Y M s s org org nm A (.slice tq tn tc) T []) := HK.out.1
      have HOk : Hid (RI X0 A s T ∧ okS s ∧ U64 org ∧ nm ≤ k ∧ T.length ≤ k) := HK.out.2
      clear hac hab hz hkx hsx hix0 hab0 hac0 hz0 HK
      go_upto_region 10 with (first
        | (refine step_ldat 46 _ rfl rfl ad (by rfl) (spC z) _ Try.underlying46 rfl (by kernel_rfl) HC.out ?_)
        | (refine step_rnewE (by rfl) _ _ rfl wr (spC sp0) (spC z) (by rfl) (by rfl) (by rfl) HL.out (by kernel_rfl) rfl (spC_one _) ?_; intro w7 hl7; have HL7 : Hid _ := hl7; clear hl7))
      obtain ⟨bs, hbs⟩ : ∃ bs, wr.heap.size = bs := ⟨_, rfl⟩
      rw [hbs] at HL7 ⊢
      have HBs : Hid (w.heap.size ≤ bs) := by
        have := HL.out.fl.be.size
        show _ ≤ _
        omega
      have k0x : w7.cell? ⟨ad0.block, ad0.off + 26, none⟩ = some (.int .u64 X0) := by
        rw [← HX00.out.1]
        have e7 := HL7.out.fl.be.cell (p := ⟨ad0.block, ad0.off + 26, none⟩) HC0.out.2.1
        have er := HL.out.fl.be.cell (p := ⟨ad0.block, ad0.off + 26, none⟩) HC0.out.2.1
        exact e7.trans (er.symm.trans (HC0.out.2.2 26 _ rfl))
      have k0y : w7.cell? ⟨ad0.block, ad0.off + 14 + 12, none⟩ = some (.int .u64 X0) := k0x
      have hix0 := HC0.out.1
      clear hix HC HL hbs HC0 HX0 HX00
      have k16 : w7.cell? ⟨bs, 16, none⟩ = some (.int .i64 z.q.mode) := HL7.out.cell bs (spC z) 46 (by simp) 16
      have k26 : w7.cell? ⟨bs, 26, none⟩ = some (.int .u64 z.q.xmt) := HL7.out.cell bs (spC z) 46 (by simp) 26
      rename_i Kb ab K12 a12 Kc ac
      have T12 : ∀ (W0 : World) (v8 v17 v18 v19 v20 v21 v22 v23 v24 v25 v26 v27 v28 v29 v42 v43 v44 v45 v46 v47 v48 v49 v50 v51 v52 v53 v54 v55 v56 v57 v58 v59 v60 v61 v62 v63 v64 v65 v66 v67 v68 v69 v70 v71 v72 v73 v74 v75 v76 v77 v78 v79 v80 v81 v82 v83 v84 v85 v86 v87 v88 v89 v90 v91 v92 v93 v94 v95 v96 v97 v98 v99 v100 v101 v102 v103 v104 v105 v106 v107 v108 v109 v110 v111 v112 v113 v114 v115 v116 v117 v118 v119 v120 v121 v122 v123 v124 v125 v126 v127 v128 v129 v130 v131 v132 v133 v134 v135 v136 v137 v138 v139 v140 v141 v142 v143 v144 v145 v146 v147 v148 v149 v150 v151 v152 v153 v154 v155 v156 v157 v158 v159 v160 v161 v162 v163 v164 v165 v166 v167 v168 v169 v170 v171 v172 v173 v174 v175 v176 v177 v178 v179 v180 v181 v182 v183 v184 v185 v186 v187 v188 v189 v190 v191 v192 v193 v194 v195 v196 v197 v198 v199 v200 v201 v202 v203 v204 v205 v206 : Value), RL w W0 p q X Y M s s org org nm A (.slice tq tn tc) T [(bs, spC z, 46)] → (z.q.mode = 5 → uu X0 z.q.xmt ≤ 4611686018427387904) → K12 { tmps := #[.agg (asL a).toArray, .int .u32 own, .slice ao n cap, .slice po kn pc, .pointer (some ⟨w.heap.size, 0, none⟩), undef, undef, undef, v8, .pointer (some ⟨p, 0, none⟩), .pointer (some ⟨q, 0, none⟩), .pointer (some ⟨X, 0, none⟩), .pointer (some ⟨Y, 0, none⟩), .slice tq tn tc, .map (some M), .int .i64 (k : Int), .pointer (some ⟨bs, 0, none⟩), v17, v18, v19, v20, v21, v22, v23, v24, v25, v26, v27, v28, v29, .bool true, .bool false, .agg #[.int .i64 a.kind, .int .u32 a.addr, .int .i64 a.key, .int .i64 a.minp, .int .i64 a.maxp, .bool a.burst, .bool a.ib, .bool a.pref, .int .i64 a.ttl, .bool a.pulse, .int .i64 a.fudge, .int .i64 a.str], .int .u32 own, .pointer (some ⟨p, 0, none⟩), .agg #[.int .i64 a.kind, .int .u32 a.addr, .int .i64 a.key, .int .i64 a.minp, .int .i64 a.maxp, .bool a.burst, .bool a.ib, .bool a.pref, .int .i64 a.ttl, .bool a.pulse, .int .i64 a.fudge, .int .i64 a.str], .int .u32 own, .pointer (some ⟨q, 0, none⟩), .map (some M), .slice ao n cap, .int .i64 (n : Int), .int .i64 (k : Int), v42, v43, v44, v45, v46, v47, v48, v49, v50, v51, v52, v53, v54, v55, v56, v57, v58, v59, v60, v61, v62, v63, v64, v65, v66, v67, v68, v69, v70, v71, v72, v73, v74, v75, v76, v77, v78, v79, v80, v81, v82, v83, v84, v85, v86, v87, v88, v89, v90, v91, v92, v93, v94, v95, v96, v97, v98, v99, v100, v101, v102, v103, v104, v105, v106, v107, v108, v109, v110, v111, v112, v113, v114, v115, v116, v117, v118, v119, v120, v121, v122, v123, v124, v125, v126, v127, v128, v129, v130, v131, v132, v133, v134, v135, v136, v137, v138, v139, v140, v141, v142, v143, v144, v145, v146, v147, v148, v149, v150, v151, v152, v153, v154, v155, v156, v157, v158, v159, v160, v161, v162, v163, v164, v165, v166, v167, v168, v169, v170, v171, v172, v173, v174, v175, v176, v177, v178, v179, v180, v181, v182, v183, v184, v185, v186, v187, v188, v189, v190, v191, v192, v193, v194, v195, v196, v197, v198, v199, v200, v201, v202, v203, v204, v205, v206], defers := [] } W0 := by
        intro W0 v8 v17 v18 v19 v20 v21 v22 v23 v24 v25 v26 v27 v28 v29 v42 v43 v44 v45 v46 v47 v48 v49 v50 v51 v52 v53 v54 v55 v56 v57 v58 v59 v60 v61 v62 v63 v64 v65 v66 v67 v68 v69 v70 v71 v72 v73 v74 v75 v76 v77 v78 v79 v80 v81 v82 v83 v84 v85 v86 v87 v88 v89 v90 v91 v92 v93 v94 v95 v96 v97 v98 v99 v100 v101 v102 v103 v104 v105 v106 v107 v108 v109 v110 v111 v112 v113 v114 v115 v116 v117 v118 v119 v120 v121 v122 v123 v124 v125 v126 v127 v128 v129 v130 v131 v132 v133 v134 v135 v136 v137 v138 v139 v140 v141 v142 v143 v144 v145 v146 v147 v148 v149 v150 v151 v152 v153 v154 v155 v156 v157 v158 v159 v160 v161 v162 v163 v164 v165 v166 v167 v168 v169 v170 v171 v172 v173 v174 v175 v176 v177 v178 v179 v180 v181 v182 v183 v184 v185 v186 v187 v188 v189 v190 v191 v192 v193 v194 v195 v196 v197 v198 v199 v200 v201 v202 v203 v204 v205 v206 h0 hwin
        have HL0 : Hid (RL w W0 p q X Y M s s org org nm A (.slice tq tn tc) T [(bs, spC z, 46)]) := h0
        have HWin : Hid (z.q.mode = 5 → uu X0 z.q.xmt ≤ 4611686018427387904) := hwin
        clear h0 hwin
        apply a12
        refine post_hid fun QB hQB => ?_
        refine seq_hid fun R15 hR15 => ?_
        have T15 : ∀ (W0 : World) (A' : Int → Bool) (nm' : Nat) (v8 v17 v18 v19 v20 v21 v22 v23 v24 v25 v26 v27 v28 v29 v42 v43 v44 v45 v46 v47 v48 v49 v50 v51 v52 v53 v54 v55 v56 v57 v58 v59 v60 v61 v62 v63 v64 v65 v66 v67 v68 v69 v70 v71 v72 v73 v74 v75 v76 v77 v78 v79 v80 v81 v82 v83 v84 v85 v86 v87 v88 v89 v90 v91 v92 v93 v94 v95 v96 v97 v98 v99 v100 v101 v102 v103 v104 v105 v106 v107 v108 v109 v110 v111 v112 v113 v114 v115 v116 v117 v118 v119 v120 v121 v122 v123 v124 v125 v126 v127 v128 v129 v130 v131 v132 v133 v134 v135 v136 v137 v138 v139 v140 v141 v142 v143 v144 v145 v146 v147 v148 v149 v150 v151 v152 v153 v154 v155 v156 v157 v158 v159 v160 v161 v162 v163 v164 v165 v166 v167 v168 v169 v170 v171 v172 v173 v174 v175 v176 v177 v178 v179 v180 v181 v182 v183 v184 v185 v186 v187 v188 v189 v190 v191 v192 v193 v194 v195 v196 v197 v198 v199 v200 v201 v202 v203 v204 v205 v206 : Value), RL w W0 p q X Y M s s org org nm' A' (.slice tq tn tc) T [(bs, spC z, 46)] → RI X0 A' s T → RI X0 A' (dsS s z org) (dsT s z org T) → nm' ≤ k + 1 → Code.wp Try.prog R15 QB { tmps := #[.agg (asL a).toArray, .int .u32 own, .slice ao n cap, .slice po kn pc, .pointer (some ⟨w.heap.size, 0, none⟩), undef, undef, undef, v8, .pointer (some ⟨p, 0, none⟩), .pointer (some ⟨q, 0, none⟩), .pointer (some ⟨X, 0, none⟩), .pointer (some ⟨Y, 0, none⟩), .slice tq tn tc, .map (some M), .int .i64 (k : Int), .pointer (some ⟨bs, 0, none⟩), v17, v18, v19, v20, v21, v22, v23, v24, v25, v26, v27, v28, v29, .bool true, .bool false, .agg #[.int .i64 a.kind, .int .u32 a.addr, .int .i64 a.key, .int .i64 a.minp, .int .i64 a.maxp, .bool a.burst, .bool a.ib, .bool a.pref, .int .i64 a.ttl, .bool a.pulse, .int .i64 a.fudge, .int .i64 a.str], .int .u32 own, .pointer (some ⟨p, 0, none⟩), .agg #[.int .i64 a.kind, .int .u32 a.addr, .int .i64 a.key, .int .i64 a.minp, .int .i64 a.maxp, .bool a.burst, .bool a.ib, .bool a.pref, .int .i64 a.ttl, .bool a.pulse, .int .i64 a.fudge, .int .i64 a.str], .int .u32 own, .pointer (some ⟨q, 0, none⟩), .map (some M), .slice ao n cap, .int .i64 (n : Int), .int .i64 (k : Int), v42, v43, v44, v45, v46, v47, v48, v49, v50, v51, v52, v53, v54, v55, v56, v57, v58, v59, v60, v61, v62, v63, v64, v65, v66, v67, v68, v69, v70, v71, v72, v73, v74, v75, v76, v77, v78, v79, v80, v81, v82, v83, v84, v85, v86, v87, v88, v89, v90, v91, v92, v93, v94, v95, v96, v97, v98, v99, v100, v101, v102, v103, v104, v105, v106, v107, v108, v109, v110, v111, v112, v113, v114, v115, v116, v117, v118, v119, v120, v121, v122, v123, v124, v125, v126, v127, v128, v129, v130, v131, v132, v133, v134, v135, v136, v137, v138, v139, v140, v141, v142, v143, v144, v145, v146, v147, v148, v149, v150, v151, v152, v153, v154, v155, v156, v157, v158, v159, v160, v161, v162, v163, v164, v165, v166, v167, v168, v169, v170, v171, v172, v173, v174, v175, v176, v177, v178, v179, v180, v181, v182, v183, v184, v185, v186, v187, v188, v189, v190, v191, v192, v193, v194, v195, v196, v197, v198, v199, v200, v201, v202, v203, v204, v205, v206], defers := [] } W0 := by
          intro W0 A' nm' v8 v17 v18 v19 v20 v21 v22 v23 v24 v25 v26 v27 v28 v29 v42 v43 v44 v45 v46 v47 v48 v49 v50 v51 v52 v53 v54 v55 v56 v57 v58 v59 v60 v61 v62 v63 v64 v65 v66 v67 v68 v69 v70 v71 v72 v73 v74 v75 v76 v77 v78 v79 v80 v81 v82 v83 v84 v85 v86 v87 v88 v89 v90 v91 v92 v93 v94 v95 v96 v97 v98 v99 v100 v101 v102 v103 v104 v105 v106 v107 v108 v109 v110 v111 v112 v113 v114 v115 v116 v117 v118 v119 v120 v121 v122 v123 v124 v125 v126 v127 v128 v129 v130 v131 v132 v133 v134 v135 v136 v137 v138 v139 v140 v141 v142 v143 v144 v145 v146 v147 v148 v149 v150 v151 v152 v153 v154 v155 v156 v157 v158 v159 v160 v161 v162 v163 v164 v165 v166 v167 v168 v169 v170 v171 v172 v173 v174 v175 v176 v177 v178 v179 v180 v181 v182 v183 v184 v185 v186 v187 v188 v189 v190 v191 v192 v193 v194 v195 v196 v197 v198 v199 v200 v201 v202 v203 v204 v205 v206 h0 hri0 hri hnm
          have eR : R15 = (c15 Try.f8) := by rw [hR15.out]; unfold c15 Try.f8; simp only [inLoop, inRound, dropSeq]
          rw [eR]
          have HRM : Hid ((T.length + 1) * 168 ≤ 140737488355328) := by
            have h1 := HOk.out.2.2.2.2
            have h2 := HV.out.2.2
            have h3 := HV.out.2.1
            show _ ≤ _
            have h4 : T.length + 1 ≤ xs.length := by omega
            exact Nat.le_trans (Nat.mul_le_mul_right 168 h4) h2
          refine pick15 a own w W0 p q X Y M bs k n kn ao po tq cap pc tn tc z s org X0 A' nm' T QB v8 v17 v18 v19 v20 v21 v22 v23 v24 v25 v26 v27 v28 v29 v42 v43 v44 v45 v46 v47 v48 v49 v50 v51 v52 v53 v54 v55 v56 v57 v58 v59 v60 v61 v62 v63 v64 v65 v66 v67 v68 v69 v70 v71 v72 v73 v74 v75 v76 v77 v78 v79 v80 v81 v82 v83 v84 v85 v86 v87 v88 v89 v90 v91 v92 v93 v94 v95 v96 v97 v98 v99 v100 v101 v102 v103 v104 v105 v106 v107 v108 v109 v110 v111 v112 v113 v114 v115 v116 v117 v118 v119 v120 v121 v122 v123 v124 v125 v126 v127 v128 v129 v130 v131 v132 v133 v134 v135 v136 v137 v138 v139 v140 v141 v142 v143 v144 v145 v146 v147 v148 v149 v150 v151 v152 v153 v154 v155 v156 v157 v158 v159 v160 v161 v162 v163 v164 v165 v166 v167 v168 v169 v170 v171 v172 v173 v174 v175 v176 v177 v178 v179 v180 v181 v182 v183 v184 v185 v186 v187 v188 v189 v190 v191 v192 v193 v194 v195 v196 v197 v198 v199 v200 v201 v202 v203 v204 v205 v206 ks HOk.out.2.1 HOk.out.2.2.1 HOz.out HBs.out HRM.out HTn.out hknb HPk.out hri0 h0 ?_
          intro W1 x8 x17 x18 x19 x20 x21 x22 x23 x24 x25 x26 x27 x28 x29 x42 x43 x44 x45 x46 x47 x48 x49 x50 x51 x52 x53 x54 x55 x56 x57 x58 x59 x60 x61 x62 x63 x64 x65 x66 x67 x68 x69 x70 x71 x72 x73 x74 x75 x76 x77 x78 x79 x80 x81 x82 x83 x84 x85 x86 x87 x88 x89 x90 x91 x92 x93 x94 x95 x96 x97 x98 x99 x100 x101 x102 x103 x104 x105 x106 x107 x108 x109 x110 x111 x112 x113 x114 x115 x116 x117 x118 x119 x120 x121 x122 x123 x124 x125 x126 x127 x128 x129 x130 x131 x132 x133 x134 x135 x136 x137 x138 x139 x140 x141 x142 x143 x144 x145 x146 x147 x148 x149 x150 x151 x152 x153 x154 x155 x156 x157 x158 x159 x160 x161 x162 x163 x164 x165 x166 x167 x168 x169 x170 x171 x172 x173 x174 x175 x176 x177 x178 x179 x180 x181 x182 x183 x184 x185 x186 x187 x188 x189 x190 x191 x192 x193 x194 x195 x196 x197 x198 x199 x200 x201 x202 x203 x204 x205 x206 h1
          refine tail21 a own w W1 p q X Y M bs k n kn ao po tq cap pc tn tc z s org X0 A' nm' T QB x8 x17 x18 x19 x20 x21 x22 x23 x24 x25 x26 x27 x28 x29 x42 x43 x44 x45 x46 x47 x48 x49 x50 x51 x52 x53 x54 x55 x56 x57 x58 x59 x60 x61 x62 x63 x64 x65 x66 x67 x68 x69 x70 x71 x72 x73 x74 x75 x76 x77 x78 x79 x80 x81 x82 x83 x84 x85 x86 x87 x88 x89 x90 x91 x92 x93 x94 x95 x96 x97 x98 x99 x100 x101 x102 x103 x104 x105 x106 x107 x108 x109 x110 x111 x112 x113 x114 x115 x116 x117 x118 x119 x120 x121 x122 x123 x124 x125 x126 x127 x128 x129 x130 x131 x132 x133 x134 x135 x136 x137 x138 x139 x140 x141 x142 x143 x144 x145 x146 x147 x148 x149 x150 x151 x152 x153 x154 x155 x156 x157 x158 x159 x160 x161 x162 x163 x164 x165 x166 x167 x168 x169 x170 x171 x172 x173 x174 x175 x176 x177 x178 x179 x180 x181 x182 x183 x184 x185 x186 x187 x188 x189 x190 x191 x192 x193 x194 x195 x196 x197 x198 x199 x200 x201 x202 x203 x204 x205 x206 HOk.out.2.1 HOk.out.2.2.1 HOz.out HBs.out HRM.out h1 ?_
          intro W2 tv y8 y17 y18 y19 y20 y21 y22 y23 y24 y25 y26 y27 y28 y29 y42 y43 y44 y45 y46 y47 y48 y49 y50 y51 y52 y53 y54 y55 y56 y57 y58 y59 y60 y61 y62 y63 y64 y65 y66 y67 y68 y69 y70 y71 y72 y73 y74 y75 y76 y77 y78 y79 y80 y81 y82 y83 y84 y85 y86 y87 y88 y89 y90 y91 y92 y93 y94 y95 y96 y97 y98 y99 y100 y101 y102 y103 y104 y105 y106 y107 y108 y109 y110 y111 y112 y113 y114 y115 y116 y117 y118 y119 y120 y121 y122 y123 y124 y125 y126 y127 y128 y129 y130 y131 y132 y133 y134 y135 y136 y137 y138 y139 y140 y141 y142 y143 y144 y145 y146 y147 y148 y149 y150 y151 y152 y153 y154 y155 y156 y157 y158 y159 y160 y161 y162 y163 y164 y165 y166 y167 y168 y169 y170 y171 y172 y173 y174 y175 y176 y177 y178 y179 y180 y181 y182 y183 y184 y185 y186 y187 y188 y189 y190 y191 y192 y193 y194 y195 y196 y197 y198 y199 y200 y201 y202 y203 y204 y205 y206 h2
          obtain ⟨s', hs'⟩ : ∃ s', dsS s z org = s' := ⟨_, rfl⟩
          obtain ⟨T', hT'⟩ : ∃ T', dsT s z org T = T' := ⟨_, rfl⟩
          obtain ⟨org', horg'⟩ : ∃ o, dsO s z org = o := ⟨_, rfl⟩
          have HE : Hid (okS s' ∧ U64 org') := by
            rw [← hs', ← horg']
            exact ⟨HOk.out.2.1.ds z org, dsO_u64 HOz.out HOk.out.2.2.1⟩
          have HTL : Hid (T'.length ≤ k + 1) := by
            have h1 := HOk.out.2.2.2.2
            show _ ≤ _
            rw [← hT']
            unfold dsT
            split
            · rw [List.length_append]; exact Nat.succ_le_succ h1
            · omega
          rw [hs', hT', horg'] at h2
          rw [hs', hT'] at hri
          have HL19 : Hid _ := h2
          have HRi : Hid (RI X0 A' s' T') := hri
          have HNm : Hid (nm' ≤ k + 1) := hnm
          clear h0 hri0 hri hnm h1 h2 hs' hT' horg' HRM eR hR15
          rw [hQB.out]
          go_wp2_with fail
          go_roundw
          case rel => exact ⟨k + 1, s', org', A', T', nm', by go_num, by omega, ⟨HL19.out, HRi.out, HE.out.1, HE.out.2, HNm.out, HTL.out⟩⟩
          case measure => simp [intOf]; omega
        clear hR15
        have HNx : Hid (nm < maxLen) := by
          have h1 := HOk.out.2.2.2.1
          show _ < _
          unfold maxLen
          omega
        have kk : W0.cell? ⟨bs, 0, none⟩ = some (.int .i64 z.k) := HL0.out.cell bs (spC z) 46 (by simp) 0
        by_cases h0 : z.k = 0
        · have hT0 : dsT s z org T = T := by unfold dsT; rw [if_neg (fun h => by rw [h0] at h; rcases h.1 with h | h <;> exact absurd h (by decide))]
          have hS0 : dsS s z org = rqS s z.y z.t := by unfold dsS; rw [if_pos h0]
          have k13 : W0.cell? ⟨bs, 13, none⟩ = some (.int .u64 z.t) := HL0.out.cell bs (spC z) 46 (by simp) 13
          rw [h0] at kk
          obtain ⟨az, haz⟩ : ∃ b, A z.t = b := ⟨_, rfl⟩
          have hget : (Instr.lookup 81 (.map (some M)) (.int .u64 z.t) false).run Try.prog W0 = .ok (.bool az) W0 := by rw [← haz]; exact HL0.out.mp.get HOz.out.t
          have HAz : Hid (A z.t = az) := haz
          clear haz
          cases az
          · by_cases hz1 : z.t ≤ 1
            · have hz1' : decide (z.t ≤ 1) = true := decide_eq_true hz1
              go_wp2_with fail
              rw [hQB.out]
              go_wp2_with fail
              go_roundw
              case rel => exact ⟨k + 1, s, org, A, T, nm, by go_num, by omega, ⟨HL0.out.sub (fun b hb => by cases hb), HOk.out.1, HOk.out.2.1, HOk.out.2.2.1, Nat.le_succ_of_le HOk.out.2.2.2.1, Nat.le_succ_of_le HOk.out.2.2.2.2⟩⟩
              case measure => simp [intOf]; omega
            · have hz1' : decide (z.t ≤ 1) = false := decide_eq_false hz1
              go_wp2_with (refine Ma.put rfl _ _ _ (.inr rfl) M nm A z.t (by rfl) (by rfl) (by rfl) HNx.out HOz.out.t HL0.out.mp ?_; intro w8 hm8 hg8; have HL8 : Hid _ := HL0.out.ask hm8 hg8; clear hm8 hg8)
              exact T15 w8 _ (nm + 1) _ _ _ _ _ _ _ _ _ _ _ _ _ _ _ _ _ _ _ _ _ _ _ _ _ _ _ _ _ _ _ _ _ _ _ _ _ _ _ _ _ _ _ _ _ _ _ _ _ _ _ _ _ _ _ _ _ _ _ _ _ _ _ _ _ _ _ _ _ _ _ _ _ _ _ _ _ _ _ _ _ _ _ _ _ _ _ _ _ _ _ _ _ _ _ _ _ _ _ _ _ _ _ _ _ _ _ _ _ _ _ _ _ _ _ _ _ _ _ _ _ _ _ _ _ _ _ _ _ _ _ _ _ _ _ _ _ _ _ _ _ _ _ _ _ _ _ _ _ _ _ _ _ _ _ _ _ _ _ _ _ _ _ _ _ _ _ _ _ _ _ _ _ _ _ _ _ _ _ HL8.out (HOk.out.1.keep rfl rfl rfl (fun x hx => by show (if x = z.t then true else A x) = true; rw [hx]; split <;> rfl) (.inr (.inl rfl))) (by rw [hT0, hS0]; exact HOk.out.1.ask z.y z.t (by omega) HAz.out) (Nat.succ_le_succ HOk.out.2.2.2.1)
          · go_wp2_with fail
            rw [hQB.out]
            go_wp2_with fail
            go_roundw
            case rel => exact ⟨k + 1, s, org, A, T, nm, by go_num, by omega, ⟨HL0.out.sub (fun b hb => by cases hb), HOk.out.1, HOk.out.2.1, HOk.out.2.2.1, Nat.le_succ_of_le HOk.out.2.2.2.1, Nat.le_succ_of_le HOk.out.2.2.2.2⟩⟩
            case measure => simp [intOf]; omega
        · have h0' : (z.k == 0) = false := by simpa using h0
          go_wp2_with fail
          exact T15 W0 A nm _ _ _ _ _ _ _ _ _ _ _ _ _ _ _ _ _ _ _ _ _ _ _ _ _ _ _ _ _ _ _ _ _ _ _ _ _ _ _ _ _ _ _ _ _ _ _ _ _ _ _ _ _ _ _ _ _ _ _ _ _ _ _ _ _ _ _ _ _ _ _ _ _ _ _ _ _ _ _ _ _ _ _ _ _ _ _ _ _ _ _ _ _ _ _ _ _ _ _ _ _ _ _ _ _ _ _ _ _ _ _ _ _ _ _ _ _ _ _ _ _ _ _ _ _ _ _ _ _ _ _ _ _ _ _ _ _ _ _ _ _ _ _ _ _ _ _ _ _ _ _ _ _ _ _ _ _ _ _ _ _ _ _ _ _ _ _ _ _ _ _ _ _ _ _ _ _ _ _ HL0.out HOk.out.1 (HOk.out.1.step z org HOz.out HOk.out.2.2.1 h0 HWin.out) (Nat.le_succ_of_le HOk.out.2.2.2.1)
      clear a12
      by_cases hm5 : z.q.mode = 5
      · have hm5' : (z.q.mode == 5) = true := by simpa using hm5
        refine wp_region_quietW (by kernel_rfl) (by kernel_rfl) ?_
        repeat (refine qw_step (fun K hK => ?_); go_simp; refine hK _ ?_; clear hK K)
        refine qw_nil ?_
        intro W8 hw8
        obtain ⟨nd, hw8'⟩ := hw8
        have HL8 : Hid _ := HL7.out.drewN' hw8'
        clear hw8'
        obtain ⟨UU, hUU⟩ : ∃ UU, uu X0 z.q.xmt = UU := ⟨_, rfl⟩
        rw [uu_wrap, hUU]
        by_cases hw : 4611686018427387904 < UU
        · have hd : decide (4611686018427387904 < UU) = true := decide_eq_true hw
          rw [hd]
          go_wp2_with fail
          rw [hQ.out]
          go_ret
          exact ⟨rfl, HL8.out.fl.be⟩
        · have hd : decide (4611686018427387904 < UU) = false := decide_eq_false hw
          rw [hd]
          go_wp2_with fail
          exact T12 W8 _ _ _ _ _ _ _ _ _ _ _ _ _ _ _ _ _ _ _ _ _ _ _ _ _ _ _ _ _ _ _ _ _ _ _ _ _ _ _ _ _ _ _ _ _ _ _ _ _ _ _ _ _ _ _ _ _ _ _ _ _ _ _ _ _ _ _ _ _ _ _ _ _ _ _ _ _ _ _ _ _ _ _ _ _ _ _ _ _ _ _ _ _ _ _ _ _ _ _ _ _ _ _ _ _ _ _ _ _ _ _ _ _ _ _ _ _ _ _ _ _ _ _ _ _ _ _ _ _ _ _ _ _ _ _ _ _ _ _ _ _ _ _ _ _ _ _ _ _ _ _ _ _ _ _ _ _ _ _ _ _ _ _ _ _ _ _ _ _ _ _ _ _ _ _ _ _ _ _ HL8.out (fun _ => by rw [hUU]; omega)
      · have hm5' : (z.q.mode == 5) = false := by simpa using hm5
        refine wp_region_quietW (by kernel_rfl) (by kernel_rfl) ?_
        repeat (refine qw_step (fun K hK => ?_); go_simp; refine hK _ ?_; clear hK K)
        refine qw_nil ?_
        intro W8 hw8
        obtain ⟨nd, hw8'⟩ := hw8
        have HL8 : Hid _ := HL7.out.drewN' hw8'
        clear hw8'
        go_wp2_with fail
        exact T12 W8 _ _ _ _ _ _ _ _ _ _ _ _ _ _ _ _ _ _ _ _ _ _ _ _ _ _ _ _ _ _ _ _ _ _ _ _ _ _ _ _ _ _ _ _ _ _ _ _ _ _ _ _ _ _ _ _ _ _ _ _ _ _ _ _ _ _ _ _ _ _ _ _ _ _ _ _ _ _ _ _ _ _ _ _ _ _ _ _ _ _ _ _ _ _ _ _ _ _ _ _ _ _ _ _ _ _ _ _ _ _ _ _ _ _ _ _ _ _ _ _ _ _ _ _ _ _ _ _ _ _ _ _ _ _ _ _ _ _ _ _ _ _ _ _ _ _ _ _ _ _ _ _ _ _ _ _ _ _ _ _ _ _ _ _ _ _ _ _ _ _ _ _ _ _ _ _ _ _ _ HL8.out (fun h => absurd h hm5)
    · go_wp2_with fail
      rw [hQ.out]
      go_ret
      exact ⟨rfl, HK.out.1.fl.be⟩
end Go.Proofs.Ytlggademcmkihaa
