/- ChooseTruth. -/
import Derived.Test.YtepbbaeamlimaaaUW
import Derived.Test.YtepbbaeamlimaaaUY
namespace Go.Proofs.Ytepbbaeamlimaaa
open Go Go.RowKit Go.Sort Ch Pu
set_option linter.unusedVariables false
def bdD (c : Cn) : Int := if c.d.tmod 1125899906842624 < -(c.d.tmod 1125899906842624) then -(c.d.tmod 1125899906842624) else c.d.tmod 1125899906842624
/-- what the law makes of a candidate that may say anything -/
def bdC (c : Cn) : Cn := ⟨c.id, c.o.tmod 1125899906842624, bdD c, c.j, c.s, c.pf, c.pu⟩
theorem bdC_ct (c : Cn) : ct (bdC c) = true := by
  have a1 := tmod_bd c.o 1125899906842624 (by omega)
  have a2 := tmod_bd c.d 1125899906842624 (by omega)
  rw [ct_iff]
  show 0 ≤ bdD c ∧ bdD c ≤ _ ∧ _ ≤ c.o.tmod 1125899906842624 ∧ c.o.tmod 1125899906842624 ≤ _
  unfold bdD
  split <;> omega
theorem th_all {l : List Cn} (h : ∀ c ∈ l, ct c = true) (hl : l.length ≤ 64) : th l = l := by rw [th_short hl]; exact List.filter_eq_self.2 h
theorem truth_end {G D : List Cn} {t M a b : Int} (hG : ∀ c ∈ G, tru t M c = true) (hct : ∀ c ∈ G ++ D, ct c = true) (hD : D.length < G.length) (h64 : (G ++ D).length ≤ 64) (h : mtl (G ++ D) = some (a, b)) :
    ((a * 65536 - t ≤ 2 * M + 65535 ∧ t - a * 65536 ≤ 2 * M + 65535) ∧ (b * 65536 - t ≤ 2 * M + 65535 ∧ t - b * 65536 ≤ 2 * M + 65535)) ∧ (∀ c ∈ sv (G ++ D), c.o - t ≤ 2 * M + 131070 ∧ t - c.o ≤ 2 * M + 131070) ∧ (G ++ D).length < 2 * (sv (G ++ D)).length := by
  have ht := th_all hct h64
  have h1 := near_truth (t := t) (most := M) h (by
    rw [ht, List.countP_append, List.countP_eq_length.2 hG, List.length_append]
    omega)
  refine ⟨h1, fun c hc => ?_, ?_⟩
  · rw [show sv (G ++ D) = _ from sv_some h] at hc
    have h2 := (List.mem_filter.1 hc).2
    simp only [decide_eq_true_eq] at h2
    unfold mi at h2
    omega
  · have := sv_most h
    rw [ht] at this
    exact this
set_option maxRecDepth 20000 in
set_option maxHeartbeats 4000000 in
theorem ChooseTruth_row (v1 v2 : Value) (t : Int) (good bad : List Cn) (w : World) (h1 : Rk w.heap.size w 7 v1 (good.map cnL)) (hok1 : ∀ c ∈ good, okC c) (hlen1 : good.length ≤ maxLen) (h2 : Rk w.heap.size w 7 v2 (bad.map cnL)) (hok2 : ∀ c ∈ bad, okC c) (hlen2 : bad.length ≤ maxLen) (ht : -2147483648 ≤ t ∧ t ≤ 2147483647) :
    Calls Try.prog 8 #[v1, v2, .int .i32 t] w fun e w' => e = .returned (.bool true) ∧ Below w.heap.size w w' := by
  obtain ⟨ao, cap, hv1, _, hr1⟩ := cands_read h1
  obtain ⟨bo, bcap, hv2, _, hr2⟩ := cands_read h2
  have HR1 : Hid (∀ w', Below w.heap.size w w' → ∀ (i : Nat) c, good[i]? = some c → ∃ ad, ao = some ad ∧ ad.block < w.heap.size ∧ ∀ j u, (cnL c)[j]? = some u → w'.cell? ((ad.add (i * 7)).add j) = some u) := fun w' hb i c hc => hr1 w' (below_cells hb (Nat.le_refl _)) i c hc
  have HR2 : Hid (∀ w', Below w.heap.size w w' → ∀ (i : Nat) c, bad[i]? = some c → ∃ ad, bo = some ad ∧ ad.block < w.heap.size ∧ ∀ j u, (cnL c)[j]? = some u → w'.cell? ((ad.add (i * 7)).add j) = some u) := fun w' hb i c hc => hr2 w' (below_cells hb (Nat.le_refl _)) i c hc
  obtain ⟨n, hn⟩ : ∃ n, good.length = n := ⟨_, rfl⟩
  have HN : Hid (good.length = n) := hn
  obtain ⟨m, hm⟩ : ∃ m, bad.length = m := ⟨_, rfl⟩
  have HM : Hid (bad.length = m) := hm
  rw [hn] at hv1 hlen1
  rw [hm] at hv2 hlen2
  subst hv1
  subst hv2
  have hn9 : (n : Int) ≤ 9223372036854775807 := by unfold maxLen at hlen1; omega
  have hm9 : (m : Int) ≤ 9223372036854775807 := by unfold maxLen at hlen2; omega
  obtain ⟨ht0, ht1⟩ := ht
  clear h1 h2 hr1 hr2 hn hm hok1 hok2 hlen1 hlen2
  by_cases hbig : (30 : Int) < n
  · go_enter Try.func8, Try.ntmps8
    refine post_hid fun Q hQ => ?_
    go_wp2_with fail
    rw [hQ.out]
    go_ret
    exact ⟨rfl, Below.refl _ _⟩
  by_cases hmaj : (n : Int) ≤ m
  · go_enter Try.func8, Try.ntmps8
    refine post_hid fun Q hQ => ?_
    go_wp2_with fail
    rw [hQ.out]
    go_ret
    exact ⟨rfl, Below.refl _ _⟩
  have hn30 : (n : Int) ≤ 30 := by omega
  have hmn : (m : Int) < n := by omega
  clear hn9 hm9
  go_enter Try.func8, Try.ntmps8
  refine post_hid fun Q hQ => ?_
  go_wp2_with fail
  clear hbig hmaj
  go_loopw [7, 8, 9] (fun v7 x8 i wr => ∃ (k : Nat) (M : Int), i = .int .i64 k ∧ x8 = .int .i64 M ∧ (k : Int) ≤ n ∧ 0 ≤ M ∧ M ≤ 1101659111424 ∧ Hid (Kp w wr v7 ((good.take k).map fun c => nr c t) ∧ ∀ c ∈ (good.take k).map fun c => nr c t, c.d ≤ M)) (fun _ _ i _ => n - (intOf i).toNat)
  case atStart => exact ⟨0, 0, rfl, rfl, by omega, by omega, by omega, ⟨⟨OR.fresh _ _ _ _ (Nat.le_refl _), (Below.refl _ _).alloc (Nat.le_refl _) _⟩, fun c hc => by simp at hc⟩⟩
  case round =>
    obtain ⟨k, M, rfl, rfl, hk, hM0, hM1, HB⟩ := hrel
    obtain ⟨v7, hv7⟩ : ∃ v, v = u7 := ⟨_, rfl⟩
    subst hv7
    by_cases hlt : (k : Int) < n
    · have hkl : k < good.length := by rw [HN.out]; omega
      obtain ⟨c, hc⟩ : ∃ c, good[k]? = some c := ⟨_, List.getElem?_eq_getElem hkl⟩
      obtain ⟨ad, g1, g2, g3⟩ := HR1.out wr HB.out.1.be k c hc
      have hix := ix_C n cap k g1 hlt
      obtain ⟨al, hal⟩ : ∃ al, ad.add (k * 7) = al := ⟨_, rfl⟩
      rw [hal] at hix g3
      have HS : Hid (∀ j u, (cnL c)[j]? = some u → wr.cell? (al.add j) = some u) := g3
      obtain ⟨_, _, _, p3, p4⟩ := nr_ok c t ht0 ht1
      have CN : Hid (∀ u, Calls Try.prog 21 #[.agg (cnL c).toArray, .int .i64 t] u fun e w' => e = .returned (.agg (cnL (nr c t)).toArray) ∧ Below u.heap.size u w') := fun u => near_any c t ht0 ht1 u
      have HT : Hid ((good.take (k + 1)).map (fun c => nr c t) = (good.take k).map (fun c => nr c t) ++ [nr c t]) := by show _ = _; rw [take_snoc hc, List.map_append]; rfl
      obtain ⟨R, hR⟩ : ∃ R, nr c t = R := ⟨_, rfl⟩
      rw [hR] at CN HT p3 p4
      obtain ⟨D, hD⟩ : ∃ D, R.d = D := ⟨_, rfl⟩
      rw [hD] at p3 p4
      have HDD : Hid (R.d = D) := hD
      obtain ⟨M2, hM2⟩ : ∃ M2, (if M < D then D else M) = M2 := ⟨_, rfl⟩
      have m1 : ∀ u, (Builtin.max_ #[24, 24] 24 #[.int .i64 M, .int .i64 D]).run Try.prog u = .ok (.int .i64 M2) u := fun u => by rw [run_mxS, hM2]
      have q0 : 0 ≤ M2 ∧ M2 ≤ 1101659111424 ∧ M ≤ M2 ∧ D ≤ M2 := by rw [← hM2]; split <;> omega
      have HQ0 : Hid (0 ≤ M2 ∧ M2 ≤ 1101659111424 ∧ M ≤ M2 ∧ D ≤ M2) := q0
      have HLn : Hid ((((good.take k).map fun c => nr c t).map cnL).length ≤ 30) := by
        show _ ≤ _
        rw [List.length_map, List.length_map, List.length_take]; omega
      clear g1 g2 g3 hc hkl hal hR hD hM2 q0
      go_upto_region 9 with (first
        | (refine step_ldat 26 _ rfl rfl al (by rfl) (cnL c) _ Try.underlying26 rfl (by kernel_rfl) HS.out ?_)
        | (go_at_call 21; refine (CN.out wr).mono ?_; rintro e w5 ⟨rfl, hb5⟩; have K5 : Hid (Kp w w5 v7 ((good.take k).map fun c => nr c t)) := HB.out.1.next hb5; clear hb5)
        | (refine step_alL (by rfl) 26 rfl (cnL zCn).toArray (fun u => by kernel_rfl) ?_; intro w6 g H6)
        | (refine step_stL (by rfl) _ _ rfl g (cnL R).toArray (by rfl) (by rfl) (cnL zCn).toArray (by kernel_rfl) (by kernel_rfl) (by kernel_rfl) H6.out.bk ?_; intro w7 H7))
      have K7 : Hid (Kp w w7 v7 ((good.take k).map fun c => nr c t) ∧ Bk g w7 (cnL R).toArray 26) := by
        have hb := H7.out.below H6.out.be H6.out.be.size (Nat.le_of_eq H6.out.at'.symm)
        exact ⟨K5.out.next hb, H7.out.bk⟩
      clear K5 H6 H7 HS CN hix
      have c2 : w7.cell? ⟨g, 2, none⟩ = some (.int .i64 D) := by rw [← HDD.out]; exact K7.out.2.cell 2
      have HSc : Hid (∀ j u, (cnL R)[j]? = some u → w7.cell? ((⟨g, 0, none⟩ : Addr).add j) = some u) := cells_of (l := cnL R) K7.out.2
      go_wp2_with (first
        | (refine step_ldat 26 _ rfl rfl ⟨g, 0, none⟩ (by rfl) (cnL R) _ Try.underlying26 rfl (by kernel_rfl) HSc.out ?_)
        | (refine step_bsL (by rfl) 22 26 _ rfl (.agg (cnL R).toArray) (cnL R) (by rfl) (run_bsC R) ?_; intro w8 g8 H8)
        | (at_builtin; refine step_apL tiC rfl _ _ rfl w.heap.size g8 v7 (cnL R) (by rfl) (by rfl) rfl (cnL_one _) w7 _ ?_ ?_ K7.out.1.ow H8.out K7.out.1.be.size ?_; (have := HLn.out; simp only [maxLen]; omega); (have := HLn.out; omega); intro v9 w9 H9))
      go_roundw
      case rel =>
        refine ⟨k + 1, M2, by go_num, rfl, by omega, HQ0.out.1, HQ0.out.2.1, ?_⟩
        rw [HT.out]
        refine ⟨⟨by rw [List.map_append]; exact H9.out.1, K7.out.1.be.trans H9.out.2⟩, fun x hx => ?_⟩
        rcases List.mem_append.1 hx with h | h
        · have := HB.out.2 x h; have := HQ0.out.2.2.1; omega
        · rw [List.mem_singleton.1 h, HDD.out]; exact HQ0.out.2.2.2
      case measure => (simp [intOf]; try omega)
    · have hkn : k = n := by omega
      subst hkn
      obtain ⟨G, hG⟩ : ∃ G, good.map (fun c => nr c t) = G := ⟨_, rfl⟩
      have e1 : good.take k = good := List.take_of_length_le (by rw [HN.out]; exact Nat.le_refl _)
      rw [e1, hG] at HB
      have HG : Hid ((∀ c ∈ G, tru t M c = true ∧ ct c = true) ∧ G.length = k) := by
        refine ⟨fun c hc => ?_, by rw [← hG, List.length_map]; exact HN.out⟩
        have h5 := HB.out.2 c hc
        rw [← hG] at hc
        obtain ⟨x, _, rfl⟩ := List.mem_map.1 hc
        obtain ⟨p0, p1, p2, _, _⟩ := nr_ok x t ht0 ht1
        exact ⟨by unfold tru; exact decide_eq_true ⟨p1, p2, h5⟩, p0⟩
      have HK : Hid (Kp w wr v7 G) := HB.out.1
      clear hG e1 HB hlt
      obtain ⟨wa, hwa⟩ : ∃ wa, wa = wr := ⟨_, rfl⟩
      subst hwa
      go_wp2_with fail
      go_loopw [7, 11] (fun x7 i wr => ∃ (j : Nat), i = .int .i64 j ∧ (j : Int) ≤ m ∧ Hid (Kp w wr x7 (G ++ (bad.take j).map bdC))) (fun _ i _ => m - (intOf i).toNat)
      case atStart => exact ⟨0, rfl, by omega, by simpa using HK⟩
      case round =>
        obtain ⟨j, rfl, hj, HB⟩ := hrel
        clear HK
        obtain ⟨x7, hx7⟩ : ∃ v, v = u7 := ⟨_, rfl⟩
        subst hx7
        by_cases hlt : (j : Int) < m
        · have hkl : j < bad.length := by rw [HM.out]; omega
          obtain ⟨c, hc⟩ : ∃ c, bad[j]? = some c := ⟨_, List.getElem?_eq_getElem hkl⟩
          obtain ⟨ad, g1, g2, g3⟩ := HR2.out wr HB.out.be j c hc
          have hix := ix_C m bcap j g1 hlt
          obtain ⟨al, hal⟩ : ∃ al, ad.add (j * 7) = al := ⟨_, rfl⟩
          rw [hal] at hix g3
          have HS : Hid (∀ j u, (cnL c)[j]? = some u → wr.cell? (al.add j) = some u) := g3
          have HT : Hid ((bad.take (j + 1)).map bdC = (bad.take j).map bdC ++ [bdC c]) := by show _ = _; rw [take_snoc hc, List.map_append]; rfl
          have HLn : Hid (((G ++ (bad.take j).map bdC).map cnL).length ≤ 60) := by
            show _ ≤ _
            rw [List.length_map, List.length_append, List.length_map, List.length_take, HG.out.2]; omega
          obtain ⟨ci, co, cd, cj, cs, cp, cu⟩ := c
          obtain ⟨O, hO⟩ : ∃ T, co.tmod 1125899906842624 = T := ⟨_, rfl⟩
          obtain ⟨D1, hD1⟩ : ∃ T, cd.tmod 1125899906842624 = T := ⟨_, rfl⟩
          obtain ⟨bO0, bO1⟩ := tmod_bd co 1125899906842624 (by omega)
          obtain ⟨bD0, bD1⟩ := tmod_bd cd 1125899906842624 (by omega)
          rw [hO] at bO0 bO1
          rw [hD1] at bD0 bD1
          obtain ⟨D, hD⟩ : ∃ D, (if D1 < -D1 then -D1 else D1) = D := ⟨_, rfl⟩
          have m1 : ∀ u, (Builtin.max_ #[24, 24] 24 #[.int .i64 D1, .int .i64 (-D1)]).run Try.prog u = .ok (.int .i64 D) u := fun u => by rw [run_mxS, hD]
          have HBd : Hid (bdC ⟨ci, co, cd, cj, cs, cp, cu⟩ = ⟨ci, O, D, cj, cs, cp, cu⟩) := by show _ = _; unfold bdC bdD; simp only [hO, hD1, hD]
          rw [HBd.out] at HT
          clear g1 g2 g3 hc hkl hal hD HBd
          go_upto_region 15 with (first
            | (refine step_ldat 26 _ rfl rfl al (by rfl) (cnL ⟨ci, co, cd, cj, cs, cp, cu⟩) _ Try.underlying26 rfl (by kernel_rfl) HS.out ?_)
            | (refine step_alL (by rfl) 26 rfl (cnL zCn).toArray (fun u => by kernel_rfl) ?_; intro w6 g H6)
            | (refine step_stL (by rfl) _ _ rfl g (cnL ⟨ci, co, cd, cj, cs, cp, cu⟩).toArray (by rfl) (by rfl) (cnL zCn).toArray (by kernel_rfl) (by kernel_rfl) (by kernel_rfl) H6.out.bk ?_; intro w7 H7))
          have K7 : Hid (Kp w w7 x7 (G ++ (bad.take j).map bdC) ∧ Bk g w7 (cnL ⟨ci, co, cd, cj, cs, cp, cu⟩).toArray 26 ∧ w.heap.size ≤ g ∧ ∀ b, x7.ownBlock = some b → b < g) := by
            have hb := H7.out.below H6.out.be H6.out.be.size (Nat.le_of_eq H6.out.at'.symm)
            have e := H6.out.at'
            exact ⟨HB.out.next hb, H7.out.bk, by have := HB.out.be.size; omega, fun b hb => by have := (HB.out.ow.ownlt b hb).2; omega⟩
          clear H6 H7 HS hix HB
          have c1 : w7.cell? ⟨g, 1, none⟩ = some (.int .i64 co) := K7.out.2.1.cell 1
          go_upto_region 16 with (refine step_st1 (by rfl) _ _ rfl g 1 (.int .i64 O) (by rfl) (by rfl) rfl (by kernel_rfl) rfl (cnL ⟨ci, co, cd, cj, cs, cp, cu⟩) (by simp [cnL]) K7.out.2.1 ?_; intro w8 H8)
          have K8 : Hid (Kp w w8 x7 (G ++ (bad.take j).map bdC) ∧ Bk g w8 (cnL ⟨ci, O, cd, cj, cs, cp, cu⟩).toArray 26 ∧ w.heap.size ≤ g ∧ ∀ b, x7.ownBlock = some b → b < g) := by
            have h5 := K7.out
            exact ⟨⟨h5.1.ow.mod H8.out.gr (fun e => by have := h5.2.2.2 g e; omega), H8.out.below h5.1.be h5.1.be.size h5.2.2.1⟩, H8.out.bk, h5.2.2⟩
          clear H8 K7 c1 hO
          have c2 : w8.cell? ⟨g, 2, none⟩ = some (.int .i64 cd) := K8.out.2.1.cell 2
          go_upto_region 17 with (refine step_st1 (by rfl) _ _ rfl g 2 (.int .i64 D) (by rfl) (by rfl) rfl (by kernel_rfl) rfl (cnL ⟨ci, O, cd, cj, cs, cp, cu⟩) (by simp [cnL]) K8.out.2.1 ?_; intro w9 H9)
          have K9 : Hid (Kp w w9 x7 (G ++ (bad.take j).map bdC) ∧ Bk g w9 (cnL ⟨ci, O, D, cj, cs, cp, cu⟩).toArray 26) := by
            have h5 := K8.out
            exact ⟨⟨h5.1.ow.mod H9.out.gr (fun e => by have := h5.2.2.2 g e; omega), H9.out.below h5.1.be h5.1.be.size h5.2.2.1⟩, H9.out.bk⟩
          clear H9 K8 c2 hD1 m1 bD0 bD1 bO0 bO1
          have HSc : Hid (∀ j u, (cnL ⟨ci, O, D, cj, cs, cp, cu⟩)[j]? = some u → w9.cell? ((⟨g, 0, none⟩ : Addr).add j) = some u) := cells_of (l := cnL ⟨ci, O, D, cj, cs, cp, cu⟩) K9.out.2
          go_wp2_with (first
            | (refine step_ldat 26 _ rfl rfl ⟨g, 0, none⟩ (by rfl) (cnL ⟨ci, O, D, cj, cs, cp, cu⟩) _ Try.underlying26 rfl (by kernel_rfl) HSc.out ?_)
            | (refine step_bsL (by rfl) 22 26 _ rfl (.agg (cnL ⟨ci, O, D, cj, cs, cp, cu⟩).toArray) (cnL ⟨ci, O, D, cj, cs, cp, cu⟩) (by rfl) (run_bsC ⟨ci, O, D, cj, cs, cp, cu⟩) ?_; intro w10 g10 H10)
            | (at_builtin; refine step_apL tiC rfl _ _ rfl w.heap.size g10 x7 (cnL ⟨ci, O, D, cj, cs, cp, cu⟩) (by rfl) (by rfl) rfl (cnL_one _) w9 _ ?_ ?_ K9.out.1.ow H10.out K9.out.1.be.size ?_; (have := HLn.out; simp only [maxLen]; omega); (have := HLn.out; omega); intro v11 w11 H11))
          go_roundw
          case rel =>
            refine ⟨j + 1, by go_num, by omega, ?_⟩
            rw [HT.out, ← List.append_assoc]
            exact ⟨by rw [List.map_append]; exact H11.out.1, K9.out.1.be.trans H11.out.2⟩
          case measure => (simp [intOf]; try omega)
        · have e1 : bad.take j = bad := List.take_of_length_le (by rw [HM.out]; omega)
          rw [e1] at HB
          obtain ⟨L, hL⟩ : ∃ L, G ++ bad.map bdC = L := ⟨_, rfl⟩
          have HL : Hid (L.length = k + m ∧ ∀ a b, mtL L = some (a, b) → ((a * 65536 - t ≤ 2 * M + 65535 ∧ t - a * 65536 ≤ 2 * M + 65535) ∧ (b * 65536 - t ≤ 2 * M + 65535 ∧ t - b * 65536 ≤ 2 * M + 65535)) ∧ (∀ c ∈ sv L, c.o - t ≤ 2 * M + 131070 ∧ t - c.o ≤ 2 * M + 131070) ∧ L.length < 2 * (sv L).length) := by
            refine ⟨by rw [← hL, List.length_append, List.length_map, HG.out.2, HM.out], fun a b h => ?_⟩
            rw [← hL] at h ⊢
            refine truth_end (fun c hc => (HG.out.1 c hc).1) (fun c hc => ?_) (by rw [List.length_map, HM.out, HG.out.2]; omega) (by rw [List.length_append, List.length_map, HM.out, HG.out.2]; omega) h
            rcases List.mem_append.1 hc with h5 | h5
            · exact (HG.out.1 c h5).2
            · obtain ⟨x, _, rfl⟩ := List.mem_map.1 h5
              exact bdC_ct x
          rw [hL] at HB
          obtain ⟨N, hN⟩ : ∃ N, k + m = N := ⟨_, rfl⟩
          have hNi : (N : Int) ≤ 60 := by omega
          obtain ⟨ao7, cap7, hx7⟩ := or_len HB.out.ow
          rw [List.length_map, HL.out.1, hN] at hx7
          subst hx7
          have HLN : Hid (L.length = N) := HL.out.1.trans hN
          obtain ⟨o, ho⟩ : ∃ o, mtL L = o := ⟨_, rfl⟩
          have HO : Hid (mtL L = o) := ho
          have CR : Hid (∀ u, Kp w u (.slice ao7 N cap7) L → Calls Try.prog 19 #[.slice ao7 N cap7] u fun e w' => e = .returned (.tuple #[.int .i64 (mA o), .int .i64 (mB o), .bool o.isSome]) ∧ Hid (Below u.heap.size u w')) := fun u hu => by
            rw [← ho]
            exact rmeet_any _ L u u.heap.size hu.ow.rk (Nat.le_refl _) (by rw [HLN.out]; omega)
          have CM : Hid (∀ u, Kp w u (.slice ao7 N cap7) L → Calls Try.prog 10 #[.slice ao7 N cap7] u fun e w' => e = .returned (.tuple #[.int .i64 (mA o), .int .i64 (mB o), .bool o.isSome]) ∧ Hid (Below u.heap.size u w')) := fun u hu => by
            rw [← ho]
            exact meet_any _ L u u.heap.size hu.ow.rk (Nat.le_refl _) (by rw [HLN.out]; omega)
          clear e1 hL hN ho hmn hk
          obtain ⟨wb, hwb⟩ : ∃ wb, wb = wr := ⟨_, rfl⟩
          subst hwb
          cases o with
          | none =>
            have CR0 : Hid (∀ u, Kp w u (.slice ao7 N cap7) L → Calls Try.prog 19 #[.slice ao7 N cap7] u fun e w' => e = .returned (.tuple #[.int .i64 0, .int .i64 0, .bool false]) ∧ Hid (Below u.heap.size u w')) := CR.out
            have CM0 : Hid (∀ u, Kp w u (.slice ao7 N cap7) L → Calls Try.prog 10 #[.slice ao7 N cap7] u fun e w' => e = .returned (.tuple #[.int .i64 0, .int .i64 0, .bool false]) ∧ Hid (Below u.heap.size u w')) := CM.out
            clear CR CM
            go_wp2_with fail
            refine (CR0.out _ HB.out).mono ?_
            rintro e w5 ⟨rfl, hb5⟩
            have K5 : Hid (Kp w w5 (.slice ao7 N cap7) L) := HB.out.next hb5.out
            clear hb5 HB CR0
            go_wp2_with fail
            refine (CM0.out _ K5.out).mono ?_
            rintro e w6 ⟨rfl, hb6⟩
            have K6 : Hid (Kp w w6 (.slice ao7 N cap7) L) := K5.out.next hb6.out
            clear hb6 K5 CM0
            go_wp2_with fail
            rw [hQ.out]
            go_ret
            exact ⟨rfl, K6.out.be⟩
          | some r =>
            obtain ⟨a, b⟩ := r
            have HT := HL.out.2 a b HO.out
            obtain ⟨⟨⟨a0, a1⟩, ⟨b0, b1⟩⟩, hsv, hms⟩ := HT
            obtain ⟨A, hA⟩ : ∃ A, a * 65536 = A := ⟨_, rfl⟩
            obtain ⟨B, hB⟩ : ∃ B, b * 65536 = B := ⟨_, rfl⟩
            have CR0 : Hid (∀ u, Kp w u (.slice ao7 N cap7) L → Calls Try.prog 19 #[.slice ao7 N cap7] u fun e w' => e = .returned (.tuple #[.int .i64 A, .int .i64 B, .bool true]) ∧ Hid (Below u.heap.size u w')) := by rw [← hA, ← hB]; exact CR.out
            have CM0 : Hid (∀ u, Kp w u (.slice ao7 N cap7) L → Calls Try.prog 10 #[.slice ao7 N cap7] u fun e w' => e = .returned (.tuple #[.int .i64 A, .int .i64 B, .bool true]) ∧ Hid (Below u.heap.size u w')) := by rw [← hA, ← hB]; exact CM.out
            have CS : Hid (∀ u, Kp w u (.slice ao7 N cap7) L → Calls Try.prog 12 #[.slice ao7 N cap7] u fun e w' => ∃ s, e = .returned s ∧ Hid (OR w' u.heap.size 26 7 s ((sv L).map cnL)) ∧ Hid (Below u.heap.size u w')) := fun u hu => survivors_any _ L u u.heap.size hu.ow.rk (Nat.le_refl _) (by rw [HLN.out]; omega)
            rw [hA] at a0 a1
            rw [hB] at b0 b1
            obtain ⟨ns, hns⟩ : ∃ ns, (sv L).length = ns := ⟨_, rfl⟩
            rw [hns, HLN.out] at hms
            have hns64 : (ns : Int) ≤ 64 := by have := sv_le L; omega
            have hms2 : (N : Int) < 2 * (ns : Int) := by omega
            have HSV : Hid ((sv L).length = ns ∧ ∀ c ∈ sv L, c.o - t ≤ 2 * M + 131070 ∧ t - c.o ≤ 2 * M + 131070) := ⟨hns, hsv⟩
            have FA : Hid (∀ u, Calls Try.prog 22 #[.int .i64 A, .int .i64 t, .int .i64 (2 * M + 131072)] u fun e w' => e = .returned (.bool false) ∧ w' = u) := fun u => far_no A t (2 * M + 131072) (by omega) (by omega) (by omega) (by omega) ht0 ht1 u
            have FB : Hid (∀ u, Calls Try.prog 22 #[.int .i64 B, .int .i64 t, .int .i64 (2 * M + 131072)] u fun e w' => e = .returned (.bool false) ∧ w' = u) := fun u => far_no B t (2 * M + 131072) (by omega) (by omega) (by omega) (by omega) ht0 ht1 u
            clear CR CM hA hB HO hns hms hsv HL a0 a1 b0 b1
            go_wp2_with fail
            refine (CR0.out _ HB.out).mono ?_
            rintro e w5 ⟨rfl, hb5⟩
            have K5 : Hid (Kp w w5 (.slice ao7 N cap7) L) := HB.out.next hb5.out
            clear hb5 HB CR0
            go_wp2_with fail
            refine (CM0.out _ K5.out).mono ?_
            rintro e w6 ⟨rfl, hb6⟩
            have K6 : Hid (Kp w w6 (.slice ao7 N cap7) L) := K5.out.next hb6.out
            clear hb6 K5 CM0
            go_wp2_with fail
            refine (CS.out _ K6.out).mono ?_
            rintro e w8 ⟨s, rfl, O8, hb8⟩
            have K8 : Hid (Below w.heap.size w w8) := (K6.out.next hb8.out).be
            obtain ⟨so, scap, hs, _, hrs⟩ := cands_read O8.out.rk
            rw [HSV.out.1] at hs
            subst hs
            have HRS : Hid (∀ (i : Nat) c, (sv L)[i]? = some c → ∃ ad, so = some ad ∧ ∀ j u, (cnL c)[j]? = some u → w8.cell? ((ad.add (i * 7)).add j) = some u) := fun i c hc => by
              obtain ⟨ad, q1, _, q3⟩ := hrs w8 (fun _ _ => rfl) i c hc
              exact ⟨ad, q1, q3⟩
            clear hb8 K6 CS O8 hrs
            go_wp2_with fail
            go_loopw [20] (fun i wr => ∃ (q : Nat), i = .int .i64 q ∧ (q : Int) ≤ ns ∧ wr = w8) (fun i _ => ns - (intOf i).toNat)
            case atStart => exact ⟨0, rfl, by omega, rfl⟩
            case round =>
              obtain ⟨q, rfl, hq, hwr⟩ := hrel
              subst hwr
              by_cases hlt : (q : Int) < ns
              · have hql : q < (sv L).length := by rw [HSV.out.1]; omega
                obtain ⟨c, hc⟩ : ∃ c, (sv L)[q]? = some c := ⟨_, List.getElem?_eq_getElem hql⟩
                obtain ⟨ad, g1, g3⟩ := HRS.out q c hc
                have hix := ix_C ns scap q g1 hlt
                obtain ⟨al, hal⟩ : ∃ al, ad.add (q * 7) = al := ⟨_, rfl⟩
                rw [hal] at hix g3
                obtain ⟨f0, f1⟩ := HSV.out.2 c (List.mem_of_getElem? hc)
                obtain ⟨co, hco⟩ : ∃ co, c.o = co := ⟨_, rfl⟩
                rw [hco] at f0 f1
                have c1 : wr.cell? ⟨al.block, al.off + 1, none⟩ = some (.int .i64 co) := by rw [← hco]; exact g3 1 _ rfl
                have FC : Hid (∀ u, Calls Try.prog 22 #[.int .i64 co, .int .i64 t, .int .i64 (2 * M + 262144)] u fun e w' => e = .returned (.bool false) ∧ w' = u) := fun u => far_no co t (2 * M + 262144) (by omega) (by omega) (by omega) (by omega) ht0 ht1 u
                clear g1 g3 hal hc hql hco
                go_wp2_with (go_at_call 22; refine (FC.out wr).mono ?_; rintro e w9 ⟨rfl, hw9⟩; rw [hw9]; clear hw9)
                go_roundw
                case rel => exact ⟨q + 1, by go_num, by omega, by first | rfl | trivial⟩
                case measure => (simp [intOf]; try omega)
              · go_wp2_with fail
                refine (FA.out wr).mono ?_
                rintro e w9 ⟨rfl, hw9⟩
                rw [hw9]
                clear hw9
                go_wp2_with fail
                refine (FB.out wr).mono ?_
                rintro e w9 ⟨rfl, hw9⟩
                rw [hw9]
                clear hw9
                go_wp2_with fail
                rw [hQ.out]
                go_ret
                exact ⟨ret_bool' (by first | rfl | (simp; omega)), K8.out⟩
end Go.Proofs.Ytepbbaeamlimaaa
