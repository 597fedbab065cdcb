/- cluster: Combine. -/
import Derived.Test.YtdlipponajilbaaClH
namespace Go.Proofs.Ytdlipponajilbaa
open Go Go.RowKit Go.Sort
set_option linter.unusedVariables false
theorem take_min (l : List Cn) : l.take (min l.length 16) = l.take 16 := by
  by_cases h : l.length ≤ 16
  · rw [Nat.min_eq_left h, List.take_of_length_le (Nat.le_refl _), List.take_of_length_le h]
  · rw [Nat.min_eq_right (by omega)]
theorem comb_empty (v : Value) (w : World) (N : Nat) (h : Rk N w 7 v (([] : List Cn).map cnL)) : Calls Try.prog 7 #[v] w fun e w' => e = .returned (.tuple #[.int .i64 0, .int .i64 0]) ∧ Below w.heap.size w w' := by
  obtain ⟨ao, cap, hv, _⟩ := h
  subst hv
  go_enter Try.func7, Try.ntmps7
  go_wp2_with fail
  go_ret2
  exact ⟨rfl, Below.refl _ _⟩
set_option maxRecDepth 20000 in
set_option maxHeartbeats 2000000 in
theorem combine_any (v : Value) (l : List Cn) (w : World) (N : Nat) (h : Rk N w 7 v (l.map cnL)) (hN : N ≤ w.heap.size) (hl : l.length ≤ 1000) (ok : ∀ c ∈ l, okC c) : Calls Try.prog 7 #[v] w fun e w' => e = .returned (.tuple #[.int .i64 (cmO l), .int .i64 (cmJ l)]) ∧ Below w.heap.size w w' := by
  by_cases hne : l = []
  · subst hne
    exact comb_empty v w N h
  have hpos : 0 < l.length := List.length_pos_iff.2 hne
  obtain ⟨ao, cap, hv, hcap⟩ := rk_form h
  obtain ⟨n, hn⟩ : ∃ n, l.length = n := ⟨_, rfl⟩
  rw [hn] at hv hl hcap hpos
  subst hv
  obtain ⟨m, hm⟩ : ∃ m : Nat, m = min n 16 := ⟨_, rfl⟩
  have hmin : min (n : Int) 16 = (m : Int) := by omega
  obtain ⟨ao1, cap1, hrun, hk1, _, _⟩ := csl_take h m (by omega)
  have hT0 : l.take m = l.take 16 := by rw [hm, ← hn]; exact take_min l
  rw [hT0] at hk1
  obtain ⟨T, hT⟩ : ∃ T, l.take 16 = T := ⟨_, rfl⟩
  rw [hT] at hk1
  have hTl : T.length = m := by rw [← hT, ← hT0, List.length_take]; omega
  obtain ⟨ao2, cap2, hrun2, hk2, _, _⟩ := csl_drop hk1 1 (by omega)
  obtain ⟨c0, hc0⟩ : ∃ c, T[0]? = some c := ⟨_, List.getElem?_eq_getElem (by omega)⟩
  have hfs : fs l = c0 := by
    unfold fs
    rw [← hT, List.getElem?_take_of_lt (by omega)] at hc0
    exact getD_at hc0
  have HL : Hid (cmO l = cmF c0.o (wts T) c0.o (T.drop 1) ∧ cmJ l = max c0.j (sj T 0)) := by
    show _ ∧ _
    unfold cmO cmJ
    rw [if_neg hne, if_neg hne, hfs, hT]
    exact ⟨rfl, rfl⟩
  have HO : Hid (∀ c ∈ T, okC c) := fun c hc => ok c (by rw [← hT] at hc; exact List.mem_of_mem_take hc)
  have HT : Hid (T.length = m ∧ m ≤ 16 ∧ 1 ≤ m ∧ T[0]? = some c0) := ⟨hTl, by omega, by omega, hc0⟩
  have HK1 : Hid (Rk N w 7 (.slice ao1 m cap1) (T.map cnL) ∧ N ≤ w.heap.size) := ⟨hk1, hN⟩
  have HK2 : Hid (Rk N w 7 (.slice ao2 (m - 1) cap2) ((T.drop 1).map cnL)) := hk2
  obtain ⟨m1, hm1⟩ : ∃ m1, m - 1 = m1 := ⟨_, rfl⟩
  rw [hm1] at hrun2 HK2
  have HM1 : Hid (m = m1 + 1) := by show _ = _; omega
  have hrun2' : ∀ u, (Instr.slice 22 (.slice ao1 m cap1) (some (.int .i64 1)) none none).run Try.prog u = .ok (.slice ao2 m1 cap2) u := hrun2
  have b1 : (m : Int) ≤ 16 := by omega
  have b2 : (1 : Int) ≤ m := by omega
  have b3 : ¬ (n : Int) = 0 := by omega
  have b3b : ((n : Int) == 0) = false := by simpa using b3
  have b4 : (m1 : Int) ≤ 15 := by omega
  clear h hN hl ok hne hpos hcap hn hm hk1 hT0 hT hTl hrun2 hk2 hc0 hfs hm1
  go_enter Try.func7, Try.ntmps7
  refine post_hid fun Q hQ => ?_
  go_wp2_with fail
  -- the sum of the weights
  obtain ⟨ao', cap', hv1, hcap1, hr1⟩ := cands_read HK1.out.1
  injection hv1 with e1 e2 e3
  subst e1 e3
  have HR : Hid (∀ w', Below w.heap.size w w' → ∀ (i : Nat) c, T[i]? = some c → ∃ ad, ao1 = some ad ∧ ad.block < w.heap.size ∧ ∀ j u, (cnL c)[j]? = some u → w'.cell? ((ad.add (i * 7)).add j) = some u) := fun w' hb i c hc => by
    obtain ⟨ad, h1, h3, h2⟩ := hr1 w' (below_cells hb HK1.out.2) i c hc
    exact ⟨ad, h1, by have := HK1.out.2; omega, h2⟩
  clear hr1 hcap1 e2
  go_loopw [4, 6, 21] (fun v4 _ i wr => ∃ (k : Nat), i = .int .i64 k ∧ (k : Int) ≤ m ∧ v4 = .int .i64 (wts (T.take k)) ∧ Hid (Below w.heap.size w wr)) (fun _ _ i _ => m - (intOf i).toNat)
  case atStart => exact ⟨0, rfl, by omega, rfl, Below.refl _ _⟩
  case round =>
    obtain ⟨k, rfl, hk, rfl, HB⟩ := hrel
    obtain ⟨A, hA⟩ : ∃ A, wts (T.take k) = A := ⟨_, rfl⟩
    have HA : Hid (wts (T.take k) = A) := hA
    have hAb : 0 ≤ A ∧ A ≤ 17592186044416 := by
      have := wts_bd (T.take k)
      rw [List.length_take] at this
      rw [← hA]
      have h2 : min k T.length ≤ 16 := by have := HT.out; omega
      omega
    obtain ⟨hA1, hA2⟩ := hAb
    rw [hA]
    clear hA
    by_cases hlt : (k : Int) < m
    · obtain ⟨c, hc⟩ : ∃ c, T[k]? = some c := ⟨_, List.getElem?_eq_getElem (by have := HT.out; omega)⟩
      obtain ⟨ad, g1, g2, g3⟩ := HR.out wr HB.out k c hc
      have hix := ix_C m cap1 k g1 hlt
      have HS : Hid (∀ j u, (cnL c)[j]? = some u → wr.cell? ((ad.add (k * 7)).add j) = some u) := g3
      obtain ⟨X, hX⟩ : ∃ X, wt c = X := ⟨_, rfl⟩
      have HN2 : Hid (wts (T.take (k + 1)) = A + X) := by
        show _ = _
        rw [take_snoc hc, wts_snoc, HA.out, hX]
      have HC : Hid (∀ u, Calls Try.prog 22 #[.agg (cnL c).toArray] u fun e w' => e = .returned (.int .i64 X) ∧ Below u.heap.size u w') := fun u => by rw [← hX]; exact weight_any c u (HO.out c (List.mem_of_getElem? hc))
      have hXb : 0 ≤ X ∧ X ≤ 1099511627776 := by rw [← hX]; exact wt_bd c
      obtain ⟨hX1, hX2⟩ := hXb
      clear g1 g2 g3 hc hX hmin hrun
      go_upto_region 8 with (first
        | (refine step_ldat 27 _ rfl rfl (ad.add (k * 7)) (by rfl) (cnL c) _ Try.underlying27 rfl (by kernel_rfl) HS.out ?_)
        | (refine step_alL (by rfl) 27 rfl (cnL zCn).toArray (fun u => by kernel_rfl) ?_; intro w3 g H3)
        | (refine step_stL (by rfl) _ _ rfl g (cnL c).toArray (by rfl) (by rfl) (cnL zCn).toArray (by kernel_rfl) (by kernel_rfl) (by kernel_rfl) H3.out.bk ?_; intro w4 H4))
      have H5 : Hid (Below w.heap.size w w4) := by
        have hb := H4.out.below H3.out.be H3.out.be.size (Nat.le_of_eq H3.out.at'.symm)
        exact below_thru HB.out hb
      have HSc : Hid (∀ j u, (cnL c)[j]? = some u → w4.cell? ((⟨g, 0, none⟩ : Addr).add j) = some u) := cells_of (l := cnL c) H4.out.bk
      clear H3 H4 HS HB hix
      go_wp2_with (first
        | (refine step_ldat 27 _ rfl rfl ⟨g, 0, none⟩ (by rfl) (cnL c) _ Try.underlying27 rfl (by kernel_rfl) HSc.out ?_)
        | (go_at_call 22; refine (HC.out _).mono ?_; rintro e w5 ⟨rfl, hb5⟩; have H6 : Hid (Below w.heap.size w w5) := below_thru H5.out hb5; clear hb5))
      go_roundw
      case rel => exact ⟨k + 1, by go_num, by omega, by rw [HN2.out], H6.out⟩
      case measure => simp [intOf]; omega
    · have hkm : k = m := by omega
      subst hkm
      have HA2 : Hid (wts T = A) := by have := HA.out; rw [List.take_of_length_le (by have := HT.out; omega)] at this; exact this
      obtain ⟨ad, g1, g2, g3⟩ := HR.out wr HB.out 0 c0 HT.out.2.2.2
      rw [Nat.zero_mul, add_zero'] at g3
      have hix0 : ∀ u, Sem.run Try.prog (Instr.indexAt 22 (.slice ao1 k cap1) (.int .i64 0)) u = .ok (.pointer (some ad)) u := fun u => by
        have := ix_C k cap1 0 g1 (by omega) u
        rw [Nat.zero_mul, add_zero'] at this
        exact this
      have HS : Hid (∀ j u, (cnL c0)[j]? = some u → wr.cell? (ad.add j) = some u) := g3
      clear g1 g2 g3 hmin hrun HA
      go_upto_region 11 with (first
        | (refine step_ldat 27 _ rfl rfl ad (by rfl) (cnL c0) _ Try.underlying27 rfl (by kernel_rfl) HS.out ?_)
        | (refine step_alL (by rfl) 27 rfl (cnL zCn).toArray (fun u => by kernel_rfl) ?_; intro w3 g H3)
        | (refine step_stL (by rfl) _ _ rfl g (cnL c0).toArray (by rfl) (by rfl) (cnL zCn).toArray (by kernel_rfl) (by kernel_rfl) (by kernel_rfl) H3.out.bk ?_; intro w4 H4))
      have H5 : Hid (Below w.heap.size w w4 ∧ Bk g w4 (cnL c0).toArray 27) := by
        have hb := H4.out.below H3.out.be H3.out.be.size (Nat.le_of_eq H3.out.at'.symm)
        exact ⟨below_thru HB.out hb, H4.out.bk⟩
      have q1 : w4.cell? ⟨g, 1, none⟩ = some (.int .i64 c0.o) := H5.out.2.cell 1
      obtain ⟨ao'', cap'', hv2, hcap2, hr2⟩ := cands_read HK2.out
      injection hv2 with e1 e2 e3
      subst e1 e3
      have HR2 : Hid (∀ w', Below w.heap.size w w' → ∀ (i : Nat) c, (T.drop 1)[i]? = some c → ∃ ad, ao2 = some ad ∧ ∀ j u, (cnL c)[j]? = some u → w'.cell? ((ad.add (i * 7)).add j) = some u) := fun w' hb i c hc => by
        obtain ⟨ad, h1, h3, h2⟩ := hr2 w' (below_cells hb HK1.out.2) i c hc
        exact ⟨ad, h1, h2⟩
      have HC0 : Hid (okC c0) := HO.out c0 (List.mem_of_getElem? HT.out.2.2.2)
      have ho1 := HC0.out.o.1
      have ho2 := HC0.out.o.2
      clear H3 H4 HS HB hix0 hr2 hcap2 e2 HR
      go_wp2_with fail
      clear q1
      go_loopw [8, 10, 38] (fun v8 _ i wr => ∃ (q : Nat), i = .int .i64 q ∧ (q : Int) ≤ m1 ∧ v8 = .int .i64 (cmF c0.o A c0.o ((T.drop 1).take q)) ∧ Hid (Below w4.heap.size w4 wr)) (fun _ _ i _ => m1 - (intOf i).toNat)
      case atStart => exact ⟨0, rfl, by omega, rfl, Below.refl _ _⟩
      case round =>
        obtain ⟨q, rfl, hq, rfl, HB⟩ := hrel
        obtain ⟨O, hO⟩ : ∃ O, cmF c0.o A c0.o ((T.drop 1).take q) = O := ⟨_, rfl⟩
        have HOf : Hid (cmF c0.o A c0.o ((T.drop 1).take q) = O) := hO
        rw [hO]
        clear hO
        by_cases hlq : (q : Int) < m1
        · obtain ⟨c, hc⟩ : ∃ c, (T.drop 1)[q]? = some c := ⟨_, List.getElem?_eq_getElem (by rw [List.length_drop]; have := HT.out; have := HM1.out; omega)⟩
          obtain ⟨ad2, g1, g3⟩ := HR2.out wr (below_thru H5.out.1 HB.out) q c hc
          have hix := ix_C m1 cap2 q g1 hlq
          have HS : Hid (∀ j u, (cnL c)[j]? = some u → wr.cell? ((ad2.add (q * 7)).add j) = some u) := g3
          have HK : Hid ((T.drop 1)[q]? = some c ∧ okC c) := ⟨hc, HO.out c (List.mem_of_mem_drop (List.mem_of_getElem? hc))⟩
          clear g1 g3 hc
          go_upto_region 15 with (first
            | (refine step_ldat 27 _ rfl rfl (ad2.add (q * 7)) (by rfl) (cnL c) _ Try.underlying27 rfl (by kernel_rfl) HS.out ?_)
            | (refine step_alL (by rfl) 27 rfl (cnL zCn).toArray (fun u => by kernel_rfl) ?_; intro w5 g5 H6)
            | (refine step_stL (by rfl) _ _ rfl g5 (cnL c).toArray (by rfl) (by rfl) (cnL zCn).toArray (by kernel_rfl) (by kernel_rfl) (by kernel_rfl) H6.out.bk ?_; intro w6 H7))
          have H8 : Hid (Below w4.heap.size w4 w6 ∧ Bk g5 w6 (cnL c).toArray 27 ∧ Bk g w6 (cnL c0).toArray 27) := by
            have hb := H7.out.below H6.out.be H6.out.be.size (Nat.le_of_eq H6.out.at'.symm)
            have hb2 := below_thru HB.out hb
            exact ⟨hb2, H7.out.bk, H5.out.2.kept (hb2.block _ H5.out.2.lt)⟩
          clear H6 H7 HS HB hix
          obtain ⟨D, hD⟩ : ∃ D, Fx.cl 4611686018427387904 (c.o - c0.o) = D := ⟨_, rfl⟩
          obtain ⟨X, hX⟩ : ∃ X, wt c = X := ⟨_, rfl⟩
          obtain ⟨E, hE⟩ : ∃ E, scl D X A = E := ⟨_, rfl⟩
          obtain ⟨F, hF⟩ : ∃ F, Fx.cl 4611686018427387904 (O + E) = F := ⟨_, rfl⟩
          have HN2 : Hid (cmF c0.o A c0.o ((T.drop 1).take (q + 1)) = F) := by
            show _ = _
            rw [take_snoc HK.out.1, cmF_snoc, HOf.out]
            unfold cmS
            rw [hD, hX, hE, hF]
          have hDb : bd62 D := by rw [← hD]; exact cl_bd62 _
          have hEb : bd62 E := by rw [← hE]; exact scl_bd _ _ _
          have hXb : 0 ≤ X ∧ X ≤ 1099511627776 := by rw [← hX]; exact wt_bd c
          have hOb : i64B O := by
            rw [← HOf.out]
            unfold cmF
            generalize (T.drop 1).take q = zs
            have : ∀ (zs : List Cn) (a : Int), i64B a → i64B (zs.foldl (cmS c0.o A) a) := by
              intro zs
              induction zs with
              | nil => intro a ha; exact ha
              | cons z zs ih =>
                intro a ha
                rw [List.foldl_cons]
                refine ih _ ?_
                unfold cmS
                have := cl_bd62 (a + scl (Fx.cl 4611686018427387904 (z.o - c0.o)) (wt z) A)
                unfold bd62 at this
                unfold i64B
                omega
            exact this zs _ HC0.out.o
          unfold bd62 at hDb hEb
          unfold i64B at hOb
          have C1 : Hid (∀ u, Calls Try.prog 25 #[.int .i64 c.o, .int .i64 c0.o] u fun e w' => e = .returned (.int .i64 D) ∧ Below u.heap.size u w') := fun u => by
            rw [← hD]
            refine (sub_any _ _ u HK.out.2.o.1 HK.out.2.o.2 HC0.out.o.1 HC0.out.o.2).mono ?_
            rintro e w' ⟨rfl, rfl⟩
            exact ⟨rfl, Below.refl _ _⟩
          have C2 : Hid (∀ u, Calls Try.prog 22 #[.agg (cnL c).toArray] u fun e w' => e = .returned (.int .i64 X) ∧ Below u.heap.size u w') := fun u => by rw [← hX]; exact weight_any c u HK.out.2
          have C3 : Hid (∀ u, Calls Try.prog 24 #[.int .i64 D, .int .i64 X, .int .i64 A] u fun e w' => e = .returned (.int .i64 E) ∧ Below u.heap.size u w') := fun u => by
            rw [← hE]
            refine (scale_any D X A u (by omega) (by omega) (by omega) (by omega) (by omega)).mono ?_
            rintro e w' ⟨rfl, nn, rfl⟩
            exact ⟨rfl, below_dr (Below.refl _ _) nn⟩
          have C4 : Hid (∀ u, Calls Try.prog 23 #[.int .i64 O, .int .i64 E] u fun e w' => e = .returned (.int .i64 F) ∧ Below u.heap.size u w') := fun u => by
            rw [← hF]
            refine (add_any O E u (by omega) (by omega) (by omega) (by omega)).mono ?_
            rintro e w' ⟨rfl, rfl⟩
            exact ⟨rfl, Below.refl _ _⟩
          clear hD hX hE hF hDb hEb hXb hOb
          refine wp_region_grown (by kernel_rfl) (by kernel_rfl) ?_
          intro C hC hG
          have al : Hid (∀ u, C u → Bk g5 u (cnL c).toArray 27 ∧ Bk g u (cnL c0).toArray 27) := fun u hu => ⟨H8.out.2.1.kept ((hC u hu).block _ H8.out.2.1.lt), H8.out.2.2.kept ((hC u hu).block _ H8.out.2.2.lt)⟩
          have q0 : Hid (∀ u, C u → u.cell? ⟨g5, 1, none⟩ = some (.int .i64 c.o)) := fun u hu => (al.out u hu).1.cell 1
          have q2 : Hid (∀ u, C u → u.cell? ⟨g, 1, none⟩ = some (.int .i64 c0.o)) := fun u hu => (al.out u hu).2.cell 1
          have cg : ∀ {f args v}, Hid (∀ u, Calls Try.prog f args u fun e w' => e = .returned v ∧ Below u.heap.size u w') → Hid (∀ u, C u → Calls Try.prog f args u fun e w' => e = .returned v ∧ C w') := fun h u hu => (h.out u).mono fun e w' ⟨h1, h2⟩ => ⟨h1, hG u w' hu h2⟩
          have Z1 := cg C1
          have Z2 := cg C2
          have Z3 := cg C3
          have Z4 := cg C4
          clear cg C1 C2 C3 C4
          refine QW.out ?_
          repeat (first
            | (refine qa_ldW (by rfl) 27 _ rfl ⟨g5, 0, none⟩ (by rfl) (cnL c) _ Try.underlying27 rfl (by kernel_rfl) (fun u hu => cells_of (al.out u hu).1) ?_; try go_simp)
            | (refine qa_valW (by rfl) ?_; apply Exists.intro; refine ⟨fun u hu => ?_, ?_⟩; ((have e0 := q0.out u hu); (have e2 := q2.out u hu); go_simp; exact rfl); try go_simp)
            | (refine qa_callW (by rfl) 25 _ _ ?_ (fun u hu => Z1.out u hu) ?_; (focus (intro u hu; go_simp; first | done | exact rfl)); try go_simp)
            | (refine qa_callW (by rfl) 22 _ _ ?_ (fun u hu => Z2.out u hu) ?_; (focus (intro u hu; go_simp; first | done | exact rfl)); try go_simp)
            | (refine qa_callW (by rfl) 24 _ _ ?_ (fun u hu => Z3.out u hu) ?_; (focus (intro u hu; go_simp; first | done | exact rfl)); try go_simp)
            | (refine qa_callW (by rfl) 23 _ _ ?_ (fun u hu => Z4.out u hu) ?_; (focus (intro u hu; go_simp; first | done | exact rfl)); try go_simp))
          refine qw_nil ?_
          intro u hu
          have HB9 : Hid (Below w4.heap.size w4 u) := below_thru H8.out.1 hu
          clear al q0 q2 Z1 Z2 Z3 Z4 hC hG hu H8
          go_wp2_with fail
          go_roundw
          case rel => exact ⟨q + 1, by go_num, by omega, by rw [HN2.out], HB9.out⟩
          case measure => simp [intOf]; omega
        · have hqm : q = m1 := by omega
          subst hqm
          have HOz : Hid (cmO l = O) := by
            have := HOf.out
            rw [List.take_of_length_le (by rw [List.length_drop]; have := HT.out; have := HM1.out; omega)] at this
            show _ = _
            rw [HL.out.1, HA2.out, this]
          have HBk : Hid (Bk g wr (cnL c0).toArray 27 ∧ Below w.heap.size w wr) := ⟨H5.out.2.kept (HB.out.block _ H5.out.2.lt), below_thru H5.out.1 HB.out⟩
          obtain ⟨Z, hZ⟩ : ∃ Z, sj T 0 = Z := ⟨_, rfl⟩
          obtain ⟨M, hM⟩ : ∃ M, max c0.j Z = M := ⟨_, rfl⟩
          have HJz : Hid (cmJ l = M) := by show _ = _; rw [HL.out.2, hZ, hM]
          have C1 : Hid (∀ u, Below wr.heap.size wr u → Calls Try.prog 26 #[.slice ao1 k cap1, .int .i64 0] u fun e w' => e = .returned (.int .i64 Z) ∧ Below u.heap.size u w') := fun u hu => by
            rw [← hZ]
            have hb := below_thru HBk.out.2 hu
            exact selectJitter_any _ T 0 u N (HK1.out.1.below hb HK1.out.2) (Nat.le_trans HK1.out.2 hb.size) (by have := HT.out; omega) (by have := HT.out; omega) HO.out
          have HMx : Hid (max c0.j Z = M) := hM
          clear hZ hM HR2 HB
          go_wp2_with fail
          refine wp_region_grown (by kernel_rfl) (by kernel_rfl) ?_
          intro C hC hG
          have q2 : Hid (∀ u, C u → u.cell? ⟨g, 3, none⟩ = some (.int .i64 c0.j)) := fun u hu => (HBk.out.1.kept ((hC u hu).block _ HBk.out.1.lt)).cell 3
          have Z1 : Hid (∀ u, C u → Calls Try.prog 26 #[.slice ao1 k cap1, .int .i64 0] u fun e w' => e = .returned (.int .i64 Z) ∧ C w') := fun u hu => (C1.out u (hC u hu)).mono fun e w' ⟨h1, h2⟩ => ⟨h1, hG u w' hu h2⟩
          clear C1
          refine QW.out ?_
          repeat (first
            | (refine qa_valW (by rfl) ?_; apply Exists.intro; refine ⟨fun u hu => ?_, ?_⟩; ((have e2 := q2.out u hu); go_simp; exact rfl); try go_simp)
            | (refine qa_callW (by rfl) 26 _ _ ?_ (fun u hu => Z1.out u hu) ?_; (focus (intro u hu; go_simp; first | done | exact rfl)); try go_simp))
          refine qw_nil ?_
          intro u hu
          have HB9 : Hid (Below w.heap.size w u) := below_thru HBk.out.2 hu
          clear q2 Z1 hC hG hu HBk
          go_wp2_with fail
          rw [hQ.out]
          go_ret2
          exact ⟨ret2i HOz.out.symm (by rw [HJz.out]; first | exact HMx.out | (rw [← HMx.out]; simp [Int.max_def]; done)), HB9.out⟩
end Go.Proofs.Ytdlipponajilbaa
