/- cluster: Mitigate. -/
import Derived.Test.YtdlipponajilbaaClL
namespace Go.Proofs.Ytdlipponajilbaa
open Go Go.RowKit Go.Sort
set_option linter.unusedVariables false
def zRs : Rs4 := ⟨0, 0, 0, false, false⟩
theorem rsL_len (r : Rs4) : (rsL r).length = 5 := rfl
theorem rsL_one (r : Rs4) : ∀ u ∈ rsL r, u.oneCell' = true := by
  intro u hu
  simp only [rsL, List.mem_cons, List.not_mem_nil, or_false] at hu
  rcases hu with rfl | rfl | rfl | rfl | rfl <;> rfl
theorem mit_eq (l : List Cn) (was : Int) : mit l was = mtg (puF (clu l)) (plF (clu l)) was := rfl
set_option maxRecDepth 20000 in
set_option maxHeartbeats 2000000 in
theorem mitigate_any (v : Value) (l : List Cn) (was : Int) (w : World) (N : Nat) (h : Rk N w 7 v (l.map cnL)) (hN : N ≤ w.heap.size) (hl : l.length ≤ 1000) (ok : ∀ c ∈ l, okC c) : Calls Try.prog 15 #[v, .int .i64 was] w fun e w' => e = .returned (.agg (rsL (mit l was)).toArray) ∧ Below w.heap.size w w' := by
  have HCl : Hid (∀ u, Below w.heap.size w u → Calls Try.prog 6 #[v] u fun e w' => ∃ x, e = .returned x ∧ Hid (OR w' u.heap.size 27 7 x ((clu l).map cnL)) ∧ Hid (Below u.heap.size u w')) := fun u hb => cluster_any v l u N (h.below hb hN) (Nat.le_trans hN hb.size) hl ok
  have hcl : (clu l).length ≤ 10 ∧ ∀ c ∈ clu l, okC c := by
    refine ⟨?_, ?_⟩
    · have := clN_len 10 ((St.st ltc l).take 10)
      unfold clu
      rw [List.length_take] at this
      omega
    · have hm : ∀ (n : Nat) (X : List Cn), (∀ c ∈ X, okC c) → ∀ c ∈ clN n X, okC c := by
        intro n
        induction n with
        | zero => intro X hX c hc; exact hX c hc
        | succ n ih =>
          intro X hX c hc
          unfold clN at hc
          split at hc
          · exact hX c hc
          · split at hc
            · exact hX c hc
            · exact ih _ (fun d hd => hX d (List.mem_of_mem_eraseIdx hd)) c hc
      exact hm 10 _ (st_ok ok 10)
  obtain ⟨P, hP⟩ : ∃ P, puF (clu l) = P := ⟨_, rfl⟩
  obtain ⟨R, hR⟩ : ∃ R, plF (clu l) = R := ⟨_, rfl⟩
  have HPR : Hid (puF (clu l) = P ∧ plF (clu l) = R ∧ P.length ≤ 10 ∧ R.length ≤ 10 ∧ (∀ c ∈ R, okC c) ∧ (clu l).length ≤ 10) := by
    have h1 := List.length_filter_le (fun c : Cn => c.pu) (clu l)
    have h2 := List.length_filter_le (fun c : Cn => !c.pu) (clu l)
    refine ⟨hP, hR, ?_, ?_, ?_, hcl.1⟩
    · rw [← hP]; unfold puF; omega
    · rw [← hR]; unfold plF; omega
    · intro c hc; rw [← hR] at hc; exact hcl.2 c ((List.mem_filter.1 hc).1)
  have HM : Hid (mit l was = mtg P R was) := by show _ = _; rw [mit_eq, hP, hR]
  clear h hN hl ok hcl hP hR
  go_enter Try.func15, Try.ntmps15
  refine post_hid fun Q hQ => ?_
  go_upto_region 1 with (refine step_alL (by rfl) 35 rfl (rsL zRs).toArray (fun u => by kernel_rfl) ?_; intro w1 g H1)
  have HB : Hid (Below w.heap.size w w1 ∧ Bk g w1 (rsL zRs).toArray 35 ∧ w.heap.size ≤ g) := ⟨H1.out.be, H1.out.bk, by have := H1.out.at'; omega⟩
  clear H1
  go_upto_region 2 with (first
    | (go_at_call 6; refine (HCl.out _ HB.out.1).mono ?_; rintro e w2 ⟨x1, rfl, h1, h2⟩; have H2 : Hid (Calls Try.prog 35 #[x1] w2 fun e w' => ∃ u1 u2, e = .returned (.tuple #[u1, u2]) ∧ Hid (OR w' w2.heap.size 27 7 u1 (P.map cnL) ∧ OR w' w2.heap.size 27 7 u2 (R.map cnL)) ∧ Hid (Below w2.heap.size w2 w')) := (by have := split_any x1 (clu l) w2 w2.heap.size h1.out.rk (Nat.le_refl _) (by have := HPR.out.2.2.2.2.2; omega); rw [HPR.out.1, HPR.out.2.1] at this; exact this); have B2 : Hid (Below w1.heap.size w1 w2) := h2; clear h1 h2)
    | (go_at_call 35; refine H2.out.mono ?_; rintro e w3 ⟨p1, r1, rfl, h3, h4⟩; have H3 : Hid (OR w3 w3.heap.size 27 7 p1 (P.map cnL) ∨ True) := .inr trivial; have B3 : Hid (Below w1.heap.size w1 w3) := below_thru B2.out h4.out; have O3 : Hid (Rk w3.heap.size w3 7 p1 (P.map cnL) ∧ Rk w3.heap.size w3 7 r1 (R.map cnL)) := ⟨h3.out.1.rk, h3.out.2.rk⟩; clear h3 h4 H3))
  have HB3 : Hid (Below w.heap.size w w3 ∧ Bk g w3 (rsL zRs).toArray 35) := ⟨below_thru HB.out.1 B3.out, HB.out.2.1.kept (B3.out.block _ HB.out.2.1.lt)⟩
  obtain ⟨ap, cp, hp1, hcp⟩ := rk_form O3.out.1
  obtain ⟨ar, cr, hr1, hcr⟩ := rk_form O3.out.2
  obtain ⟨np, hnp⟩ : ∃ np, P.length = np := ⟨_, rfl⟩
  obtain ⟨nr, hnr⟩ : ∃ nr, R.length = nr := ⟨_, rfl⟩
  have HL : Hid (P.length = np ∧ R.length = nr) := ⟨hnp, hnr⟩
  rw [hnp] at hp1
  rw [hnr] at hr1
  subst hp1 hr1
  have bnp : (np : Int) ≤ 10 := by have := HPR.out; omega
  have bnr : (nr : Int) ≤ 10 := by have := HPR.out; omega
  clear hnp hnr hcp hcr HCl B3
  by_cases hr0 : (nr : Int) = 0
  · have HE : Hid (mit l was = zRs) := by
      show _ = _
      have e : R = [] := List.length_eq_zero_iff.1 (by have := HL.out; omega)
      rw [HM.out, e]
      unfold mtg
      rw [if_pos rfl]; rfl
    go_wp2_with (refine step_stL (by rfl) _ _ rfl g (rsL zRs).toArray (by rfl) (by rfl) (rsL zRs).toArray (by kernel_rfl) (by kernel_rfl) (by kernel_rfl) HB3.out.2 ?_; intro wz HZz; have HF : Hid (wz.heap[g]? = some (.cells (rsL zRs).toArray 35 (0, 0)) ∧ Below w.heap.size w wz) := ⟨HZz.out.bk, HZz.out.below HB3.out.1 (HB3.out.1).size HB.out.2.2⟩; clear HZz)
    rw [hQ.out]
    refine bodyPost_ret (v := .agg (rsL zRs).toArray) (results_cell_row Try.results15 _ _ g _ _ (0, 0) _ (by rfl) HF.out.1 Try.underlying35 rfl (by kernel_rfl)) rfl ⟨by rw [HE.out], HF.out.2⟩
  · have hrb : ((nr : Int) == 0) = false := by simpa using hr0
    have hpos : 0 < R.length := by have := HL.out; omega
    have hbb := bsI_bd was hpos
    obtain ⟨k, hk⟩ : ∃ k : Nat, bsI R was = (k : Int) := ⟨(bsI R was).toNat, by omega⟩
    rw [hk] at hbb
    obtain ⟨c, hc⟩ : ∃ c, R[k]? = some c := ⟨_, List.getElem?_eq_getElem (by omega)⟩
    have HKc : Hid (R[k]? = some c ∧ k < R.length ∧ R.getD k zCn = c) := ⟨hc, by omega, getD_at hc⟩
    have HMt : Hid (mit l was = if P ≠ [] ∧ -1073741824 ≤ c.o ∧ c.o ≤ 1073741824 then alo (fs P) true else if c.pf = true then alo c false else ⟨c.id, cmO (ahd R k), cmJ (ahd R k), true, false⟩) := by
      show _ = _
      rw [HM.out]
      unfold mtg
      rw [if_neg (fun e => by rw [e] at hpos; exact absurd hpos (by simp))]
      simp only [hk, Int.toNat_natCast, HKc.out.2.2]
    have HBP : Hid (Calls Try.prog 32 #[.slice ar nr cr, .int .i64 was] w3 fun e w' => e = .returned (.int .i64 (k : Int)) ∧ Below w3.heap.size w3 w') := by
      rw [← hk]
      exact bestPlace_any _ R was w3 w3.heap.size O3.out.2 (Nat.le_refl _) (by have := HPR.out; omega) hpos
    obtain ⟨ao', cap', hv', _, hrd⟩ := cands_read O3.out.2
    injection hv' with e1 e2 e3
    subst e1 e3
    have HRd : Hid (∀ w', Below w3.heap.size w3 w' → ∃ ad, ar = some ad ∧ ∀ j u, (cnL c)[j]? = some u → w'.cell? ((ad.add (k * 7)).add j) = some u) := fun w' hb => by
      obtain ⟨ad, h1, _, h2⟩ := hrd w' (below_cells hb (Nat.le_refl _)) k c hc
      exact ⟨ad, h1, h2⟩
    obtain ⟨ad, har, _⟩ := HRd.out w3 (Below.refl _ _)
    subst har
    have hix : ∀ u, Sem.run Try.prog (Instr.indexAt 22 (.slice (some ad) nr cr) (.int .i64 (k : Int))) u = .ok (.pointer (some (ad.add (k * 7)))) u := ix_C nr cr k rfl (by have := HL.out; omega)
    clear hrd hc hbb hk hpos e2 hr0 HM
    go_upto_region 6 with (first
      | (go_at_call 32; refine HBP.out.mono ?_; rintro e w4 ⟨rfl, h4⟩; have HS : Hid (∀ j u, (cnL c)[j]? = some u → w4.cell? ((ad.add (k * 7)).add j) = some u) := (by obtain ⟨ad', e1, e2⟩ := HRd.out w4 h4; obtain rfl := Option.some.inj e1; exact e2); have H4 : Hid (Below w3.heap.size w3 w4) := h4; clear h4)
      | (refine step_ldat 27 _ rfl rfl (ad.add (k * 7)) (by rfl) (cnL c) _ Try.underlying27 rfl (by kernel_rfl) HS.out ?_)
      | (refine step_alL (by rfl) 27 rfl (cnL zCn).toArray (fun u => by kernel_rfl) ?_; intro w5 g5 H5)
      | (refine step_stL (by rfl) _ _ rfl g5 (cnL c).toArray (by rfl) (by rfl) (cnL zCn).toArray (by kernel_rfl) (by kernel_rfl) (by kernel_rfl) H5.out.bk ?_; intro w6 H6))
    have H7 : Hid (Below w3.heap.size w3 w6 ∧ Bk g5 w6 (cnL c).toArray 27 ∧ Bk g w6 (rsL zRs).toArray 35 ∧ Below w.heap.size w w6) := by
      have hb := H6.out.below H5.out.be H5.out.be.size (Nat.le_of_eq H5.out.at'.symm)
      have hb2 := below_thru H4.out hb
      exact ⟨hb2, H6.out.bk, HB3.out.2.kept (hb2.block _ HB3.out.2.lt), below_thru HB3.out.1 hb2⟩
    have q1 : w6.cell? ⟨g5, 1, none⟩ = some (.int .i64 c.o) := H7.out.2.1.cell 1
    have q0 : w6.cell? ⟨g5, 0, none⟩ = some (.int .i64 c.id) := H7.out.2.1.cell 0
    have q5 : w6.cell? ⟨g5, 5, none⟩ = some (.bool c.pf) := H7.out.2.1.cell 5
    have HSc : Hid (∀ j u, (cnL c)[j]? = some u → w6.cell? ((⟨g5, 0, none⟩ : Addr).add j) = some u) := cells_of (l := cnL c) H7.out.2.1
    have CA : Hid (∀ (x : Cn) u, Calls Try.prog 36 #[.agg (cnL x).toArray] u fun e w' => e = .returned (.agg (rsL (alo x false)).toArray) ∧ Below u.heap.size u w') := fun x u => alone_any x u
    clear H4 H5 H6 HS hix HBP HRd HB3
    by_cases hpl : (0 : Int) < np ∧ -1073741824 ≤ c.o ∧ c.o ≤ 1073741824
    · obtain ⟨hnp, hlo, hhi⟩ := hpl
      obtain ⟨c0, hc0⟩ : ∃ x, P[0]? = some x := ⟨_, List.getElem?_eq_getElem (by have := HL.out; omega)⟩
      have HE : Hid (mit l was = alo c0 true) := by
        show _ = _
        rw [HMt.out, if_pos ⟨fun e => by have := HL.out.1; rw [e] at this; simp at this; omega, hlo, hhi⟩]
        unfold fs
        rw [getD_at hc0]
      obtain ⟨ao', cap', hv', _, hrd⟩ := cands_read O3.out.1
      injection hv' with e1 e2 e3
      subst e1 e3
      obtain ⟨a0, hap, _, hcl⟩ := hrd w6 (below_cells H7.out.1 (Nat.le_refl _)) 0 c0 hc0
      subst hap
      rw [Nat.zero_mul, add_zero'] at hcl
      have HSp : Hid (∀ j u, (cnL c0)[j]? = some u → w6.cell? (a0.add j) = some u) := hcl
      have hix0 : ∀ u, Sem.run Try.prog (Instr.indexAt 22 (.slice (some a0) np cp) (.int .i64 0)) u = .ok (.pointer (some a0)) u := fun u => by
        have := ix_C np cp 0 (ao := some a0) (ad := a0) rfl (by omega) u
        rw [Nat.zero_mul, add_zero'] at this
        exact this
      clear hrd hc0 hcl e2 HMt
      go_upto_region 8 with (first
        | (refine step_ldat 27 _ rfl rfl a0 (by rfl) (cnL c0) _ Try.underlying27 rfl (by kernel_rfl) HSp.out ?_)
        | (go_at_call 36; refine (CA.out c0 _).mono ?_; rintro e w7 ⟨rfl, h7⟩; have H8 : Hid (Bk g w7 (rsL zRs).toArray 35 ∧ Below w.heap.size w w7) := ⟨H7.out.2.2.1.kept (h7.block _ H7.out.2.2.1.lt), below_thru H7.out.2.2.2 h7⟩; clear h7)
        | (refine step_alL (by rfl) 35 rfl (rsL zRs).toArray (fun u => by kernel_rfl) ?_; intro w8 g8 H9)
        | (refine step_stL (by rfl) _ _ rfl g8 (rsL (alo c0 false)).toArray (by rfl) (by rfl) (rsL zRs).toArray (by kernel_rfl) (by kernel_rfl) (by kernel_rfl) H9.out.bk ?_; intro w9 H10))
      have H11 : Hid (Bk g8 w9 (rsL (alo c0 false)).toArray 35 ∧ Bk g w9 (rsL zRs).toArray 35 ∧ Below w.heap.size w w9 ∧ w.heap.size ≤ g8 ∧ g ≠ g8) := by
        have hb := H10.out.below H9.out.be H9.out.be.size (Nat.le_of_eq H9.out.at'.symm)
        have h1 := H9.out.at'
        have h2 := H8.out.1.lt
        have h3 := H8.out.2.size
        exact ⟨H10.out.bk, H8.out.1.kept (hb.block _ H8.out.1.lt), below_thru H8.out.2 hb, by omega, by omega⟩
      clear H8 H9 H10 q0 q1 q5
      go_upto_region 9 with (refine step_st1 (T := 35) (by rfl) _ _ rfl g8 4 (.bool true) (by rfl) (by rfl) rfl (by kernel_rfl) rfl (rsL (alo c0 false)) (Nat.lt_of_lt_of_eq (by decide) (rsL_len _).symm) H11.out.1 ?_; intro w10 H12)
      have H13 : Hid (Bk g8 w10 (rsL (alo c0 true)).toArray 35 ∧ Bk g w10 (rsL zRs).toArray 35 ∧ Below w.heap.size w w10) := ⟨H12.out.bk, H12.out.other H11.out.2.1 H11.out.2.2.2.2, H12.out.below H11.out.2.2.1 H11.out.2.2.1.size H11.out.2.2.2.1⟩
      have HSr : Hid (∀ j u, (rsL (alo c0 true))[j]? = some u → w10.cell? ((⟨g8, 0, none⟩ : Addr).add j) = some u) := cells_of (l := rsL (alo c0 true)) H13.out.1
      clear H11 H12
      go_wp2_with (first
        | (refine step_ldat 35 _ rfl rfl ⟨g8, 0, none⟩ (by rfl) (rsL (alo c0 true)) _ Try.underlying35 rfl (by kernel_rfl) HSr.out ?_)
        | (refine step_stL (by rfl) _ _ rfl g (rsL (alo c0 true)).toArray (by rfl) (by rfl) (rsL zRs).toArray (by kernel_rfl) (by kernel_rfl) (by kernel_rfl) H13.out.2.1 ?_; intro wz HZz; have HF : Hid (wz.heap[g]? = some (.cells (rsL (alo c0 true)).toArray 35 (0, 0)) ∧ Below w.heap.size w wz) := ⟨HZz.out.bk, HZz.out.below H13.out.2.2 (H13.out.2.2).size HB.out.2.2⟩; clear HZz))
      rw [hQ.out]
      refine bodyPost_ret (v := .agg (rsL (alo c0 true)).toArray) (results_cell_row Try.results15 _ _ g _ _ (0, 0) _ (by rfl) HF.out.1 Try.underlying35 rfl (by kernel_rfl)) rfl ⟨by rw [HE.out], HF.out.2⟩
    · have HMt2 : Hid (mit l was = if c.pf = true then alo c false else ⟨c.id, cmO (ahd R k), cmJ (ahd R k), true, false⟩) := by
        show _ = _
        rw [HMt.out, if_neg]
        intro hh
        refine hpl ⟨?_, hh.2⟩
        have h1 : P.length ≠ 0 := fun e => hh.1 (List.length_eq_zero_iff.1 e)
        have := HL.out
        omega
      have hcases : (¬ (0 : Int) < np) ∨ ((0 : Int) < np ∧ ¬ -1073741824 ≤ c.o) ∨ ((0 : Int) < np ∧ -1073741824 ≤ c.o ∧ ¬ c.o ≤ 1073741824) := by omega
      obtain ⟨pf, hpf⟩ : ∃ pf, c.pf = pf := ⟨_, rfl⟩
      rw [hpf] at q5
      have HPf : Hid (c.pf = pf) := hpf
      clear hpl HMt hpf
      cases pf
      · have HE : Hid (mit l was = ⟨c.id, cmO (ahd R k), cmJ (ahd R k), true, false⟩) := by
          show _ = _
          rw [HMt2.out, HPf.out, if_neg (by simp)]
        obtain ⟨O, hO⟩ : ∃ O, cmO (ahd R k) = O := ⟨_, rfl⟩
        obtain ⟨J, hJ⟩ : ∃ J, cmJ (ahd R k) = J := ⟨_, rfl⟩
        rw [hO, hJ] at HE
        have CBA : Hid (Calls Try.prog 37 #[.slice (some ad) nr cr, .int .i64 (k : Int)] w6 fun e w' => ∃ u, e = .returned u ∧ Hid (OR w' w6.heap.size 27 7 u ((ahd R k).map cnL)) ∧ Hid (Below w6.heap.size w6 w')) := bestAhead_any _ R k w6 w3.heap.size (O3.out.2.below H7.out.1 (Nat.le_refl _)) H7.out.1.size (by have := HPR.out; omega) HKc.out.2.1
        have CCo : Hid (∀ u w', OR w' w6.heap.size 27 7 u ((ahd R k).map cnL) → Calls Try.prog 7 #[u] w' fun e w2 => e = .returned (.tuple #[.int .i64 O, .int .i64 J]) ∧ Below w'.heap.size w' w2) := fun u w' ho => by
          rw [← hO, ← hJ]
          refine combine_any u (ahd R k) w' w'.heap.size ho.rk (Nat.le_refl _) ?_ ?_
          · unfold ahd
            rw [List.length_cons]
            have := List.length_eraseIdx_le R k
            have := HPR.out
            omega
          · intro x hx
            unfold ahd at hx
            rcases List.mem_cons.1 hx with rfl | hx
            · rw [HKc.out.2.2]; exact HPR.out.2.2.2.2.1 c (List.mem_of_getElem? HKc.out.1)
            · exact HPR.out.2.2.2.2.1 x (List.mem_of_mem_eraseIdx hx)
        clear hO hJ HMt2
        rcases hcases with hx1 | hx1 | hx1
        all_goals (try obtain ⟨hx1, hx2⟩ := hx1)
        all_goals (try obtain ⟨hx2, hx3⟩ := hx2)
        all_goals
          go_wp2_with (first
            | (go_at_call 37; refine CBA.out.mono ?_; rintro e w7 ⟨y1, rfl, h7, h8⟩; have H8 : Hid (OR w7 w6.heap.size 27 7 y1 ((ahd R k).map cnL) ∧ Below w6.heap.size w6 w7) := ⟨h7.out, h8.out⟩; clear h7 h8)
            | (go_at_call 7; refine (CCo.out _ _ H8.out.1).mono ?_; rintro e w8 ⟨rfl, h9⟩; have H9 : Hid (Below w.heap.size w w8 ∧ Bk g w8 (rsL zRs).toArray 35) := (by have hb := below_thru H8.out.2 h9; exact ⟨below_thru H7.out.2.2.2 hb, H7.out.2.2.1.kept (hb.block _ H7.out.2.2.1.lt)⟩); have k0 : w8.cell? ⟨g5, 0, none⟩ = some (.int .i64 c.id) := (by have hb := below_thru H8.out.2 h9; exact (H7.out.2.1.kept (hb.block _ H7.out.2.1.lt)).cell 0); clear h9)
            | (refine step_stL (by rfl) _ _ rfl g (rsL ⟨c.id, O, J, true, false⟩).toArray (by rfl) (by rfl) (rsL zRs).toArray (by kernel_rfl) (by kernel_rfl) (by kernel_rfl) H9.out.2 ?_; intro wz HZz; have HF : Hid (wz.heap[g]? = some (.cells (rsL ⟨c.id, O, J, true, false⟩).toArray 35 (0, 0)) ∧ Below w.heap.size w wz) := ⟨HZz.out.bk, HZz.out.below H9.out.1 (H9.out.1).size HB.out.2.2⟩; clear HZz))
          rw [hQ.out]
          refine bodyPost_ret (v := .agg (rsL ⟨c.id, O, J, true, false⟩).toArray) (results_cell_row Try.results15 _ _ g _ _ (0, 0) _ (by rfl) HF.out.1 Try.underlying35 rfl (by kernel_rfl)) rfl ⟨by rw [HE.out], HF.out.2⟩
      · have HE : Hid (mit l was = alo c false) := by
          show _ = _
          rw [HMt2.out, HPf.out, if_pos rfl]
        clear HMt2
        rcases hcases with hx1 | hx1 | hx1
        all_goals (try obtain ⟨hx1, hx2⟩ := hx1)
        all_goals (try obtain ⟨hx2, hx3⟩ := hx2)
        all_goals
          go_wp2_with (first
            | (refine step_ldat 27 _ rfl rfl ⟨g5, 0, none⟩ (by rfl) (cnL c) _ Try.underlying27 rfl (by kernel_rfl) HSc.out ?_)
            | (go_at_call 36; refine (CA.out c _).mono ?_; rintro e w7 ⟨rfl, h7⟩; have H9 : Hid (Below w.heap.size w w7 ∧ Bk g w7 (rsL zRs).toArray 35) := ⟨below_thru H7.out.2.2.2 h7, H7.out.2.2.1.kept (h7.block _ H7.out.2.2.1.lt)⟩; clear h7)
            | (refine step_stL (by rfl) _ _ rfl g (rsL (alo c false)).toArray (by rfl) (by rfl) (rsL zRs).toArray (by kernel_rfl) (by kernel_rfl) (by kernel_rfl) H9.out.2 ?_; intro wz HZz; have HF : Hid (wz.heap[g]? = some (.cells (rsL (alo c false)).toArray 35 (0, 0)) ∧ Below w.heap.size w wz) := ⟨HZz.out.bk, HZz.out.below H9.out.1 (H9.out.1).size HB.out.2.2⟩; clear HZz))
          rw [hQ.out]
          refine bodyPost_ret (v := .agg (rsL (alo c false)).toArray) (results_cell_row Try.results15 _ _ g _ _ (0, 0) _ (by rfl) HF.out.1 Try.underlying35 rfl (by kernel_rfl)) rfl ⟨by rw [HE.out], HF.out.2⟩
end Go.Proofs.Ytdlipponajilbaa
