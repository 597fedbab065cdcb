/- ChooseSame. -/
import Derived.Test.YtepbbaeamlimaaaUL
import Derived.Test.YtepbbaeamlimaaaUQ
namespace Go.Proofs.Ytepbbaeamlimaaa
open Go Go.RowKit Go.Sort Ch Pu
set_option linter.unusedVariables false
theorem tmod_bd (x m : Int) (hm : 0 < m) : -m < x.tmod m ∧ x.tmod m < m := by
  refine ⟨?_, Int.tmod_lt_of_pos x hm⟩
  have := Int.tmod_lt_of_pos (-x) hm
  rw [Int.neg_tmod] at this
  omega
theorem run_mxS (a b : Int) (u : World) : (Builtin.max_ #[24, 24] 24 #[.int .i64 a, .int .i64 b]).run Try.prog u = .ok (.int .i64 (if a < b then b else a)) u := by simp [go_sem]
/-- alike but for their numbers -/
def lik (O D cj cs : Int) (cp cu : Bool) (k : Nat) : List Cn := (List.range k).map fun (i : Nat) => ⟨(i : Int), O, D, cj, cs, cp, cu⟩
theorem lik_len (O D cj cs : Int) (cp cu : Bool) (k : Nat) : (lik O D cj cs cp cu k).length = k := by unfold lik; simp
theorem lik_succ (O D cj cs : Int) (cp cu : Bool) (k : Nat) : lik O D cj cs cp cu (k + 1) = lik O D cj cs cp cu k ++ [⟨(k : Int), O, D, cj, cs, cp, cu⟩] := by unfold lik; rw [List.range_succ, List.map_append]; rfl
theorem lik_all (O D cj cs : Int) (cp cu : Bool) (k : Nat) : ∀ x ∈ lik O D cj cs cp cu k, x.o = O ∧ x.d = D := by
  intro x hx
  unfold lik at hx
  obtain ⟨i, _, rfl⟩ := List.mem_map.1 hx
  exact ⟨rfl, rfl⟩
/-- within the loop: the list, and the candidate that is turned -/
structure Lk (w w1 u : World) (g : Nat) (v : Value) (xs : List Cn) (I O D cj cs : Int) (cp cu : Bool) : Prop where
  ow : OR u w1.heap.size 26 7 v (xs.map cnL)
  be : Below w.heap.size w u
  bk : Bk g u (cnL ⟨I, O, D, cj, cs, cp, cu⟩).toArray 26
  sz : w1.heap.size ≤ u.heap.size
  g0 : w.heap.size ≤ g
  g1 : g < w1.heap.size
set_option maxRecDepth 20000 in
set_option maxHeartbeats 2000000 in
theorem ChooseSame_row (n : Int) (c : Cn) (w : World) (hc : okC c) (hn : -9223372036854775808 ≤ n ∧ n ≤ 9223372036854775807) :
    Calls Try.prog 4 #[.agg (cnL c).toArray, .int .i64 n] w fun e w' => e = .returned (.bool true) ∧ Below w.heap.size w w' := by
  obtain ⟨ci, co, cd, cj, cs, cp, cu⟩ := c
  obtain ⟨T1, hT1⟩ : ∃ T, n.tmod 20 = T := ⟨_, rfl⟩
  obtain ⟨T2, hT2⟩ : ∃ T, (T1 + 20).tmod 20 = T := ⟨_, rfl⟩
  have b1 := tmod_bd n 20 (by omega)
  rw [hT1] at b1
  have b2 : 0 ≤ T2 ∧ T2 < 20 := by
    rw [← hT2]
    exact ⟨Int.tmod_nonneg 20 (by omega), Int.tmod_lt_of_pos _ (by omega)⟩
  obtain ⟨m, hm⟩ : ∃ m : Nat, T2 + 1 = (m : Int) := ⟨(T2 + 1).toNat, by omega⟩
  obtain ⟨O, hO⟩ : ∃ T, co.tmod 1125899906842624 = T := ⟨_, rfl⟩
  obtain ⟨D1, hD1⟩ : ∃ T, cd.tmod 1125899906842624 = T := ⟨_, rfl⟩
  have bO := tmod_bd co 1125899906842624 (by omega)
  have bD := tmod_bd cd 1125899906842624 (by omega)
  rw [hO] at bO
  rw [hD1] at bD
  obtain ⟨D, hD⟩ : ∃ D, (if D1 < -D1 then -D1 else D1) = D := ⟨_, rfl⟩
  have m1 : ∀ u, (Builtin.max_ #[24, 24] 24 #[.int .i64 D1, .int .i64 (-D1)]).run Try.prog u = .ok (.int .i64 D) u := fun u => by rw [run_mxS, hD]
  have bD2 : 0 ≤ D ∧ D < 1125899906842624 := by rw [← hD]; split <;> omega
  obtain ⟨bO0, bO1⟩ := bO
  obtain ⟨bD0, bD1⟩ := bD
  obtain ⟨bE0, bE1⟩ := bD2
  obtain ⟨t0, t1⟩ := b1
  obtain ⟨t2, t3⟩ := b2
  have HZ : Hid (1 ≤ m ∧ m ≤ 20) := ⟨by omega, by omega⟩
  have hm1 : (1 : Int) ≤ m := by omega
  have hm2 : (m : Int) ≤ 20 := by omega
  clear hc hn hD
  go_enter Try.func4, Try.ntmps4
  refine post_hid fun Q hQ => ?_
  refine seq_hid fun R hR => ?_
  go_wp2_with (refine step_boxL (by rfl) 26 _ rfl (cnL ⟨ci, co, cd, cj, cs, cp, cu⟩).toArray (by rfl) (fun u => by kernel_rfl) ?_; intro w1 g H1)
  rw [hR.out]
  clear hR
  refine seq_hid fun R hR => ?_
  go_wp2_with fail
  rw [hR.out]
  clear hR hT1 hT2 t0 t1
  have c1 : w1.cell? ⟨g, 1, none⟩ = some (.int .i64 co) := H1.out.bk.cell 1
  refine seq_hid fun R hR => ?_
  go_wp2_with (refine step_st1 (by rfl) _ _ rfl g 1 (.int .i64 O) (by rfl) (by rfl) rfl (by kernel_rfl) rfl (cnL ⟨ci, co, cd, cj, cs, cp, cu⟩) (by simp [cnL]) H1.out.bk ?_; intro w2 H2)
  rw [hR.out]
  clear hR c1 hO
  have HB2 : Hid (Bk g w2 (cnL ⟨ci, O, cd, cj, cs, cp, cu⟩).toArray 26) := H2.out.bk
  have c2 : w2.cell? ⟨g, 2, none⟩ = some (.int .i64 cd) := HB2.out.cell 2
  refine seq_hid fun R hR => ?_
  go_wp2_with (refine step_st1 (by rfl) _ _ rfl g 2 (.int .i64 D) (by rfl) (by rfl) rfl (by kernel_rfl) rfl (cnL ⟨ci, O, cd, cj, cs, cp, cu⟩) (by simp [cnL]) HB2.out ?_; intro w3 H3)
  rw [hR.out]
  clear hR c2 hD1 m1 bD0 bD1
  have HL : Hid (Lk w w1 w3 g (.slice none 0 0) [] ci O D cj cs cp cu) := by
    have hg : g = w.heap.size := H1.out.at'
    have hs := H1.out.sz
    refine ⟨OR.nil _ _ _ _, H3.out.below (H2.out.below H1.out.be H1.out.be.size (by omega)) ?_ (by omega), H3.out.bk, ?_, by omega, by omega⟩
    · rw [H2.out.sz]; omega
    · rw [H3.out.sz, H2.out.sz]; exact Nat.le_refl _
  clear H1 H2 H3 HB2
  go_wp2_with fail
  go_loopw [5, 6] (fun v i wr => ∃ (k : Nat) (I : Int), i = .int .i64 k ∧ (k : Int) ≤ m ∧ Hid (Lk w w1 wr g v (lik O D cj cs cp cu k) I O D cj cs cp cu)) (fun _ i _ => m - (intOf i).toNat)
  case atStart =>
    refine ⟨0, ci, rfl, by omega, ⟨(OR.fresh _ _ _ _ HL.out.sz), HL.out.be.alloc HL.out.be.size _, HL.out.bk.kept (heap_alloc_old _ _ HL.out.bk.lt), ?_, HL.out.g0, HL.out.g1⟩⟩
    rw [size_alloc1]; have := HL.out.sz; omega
  case round =>
    obtain ⟨k, I, rfl, hk, HB⟩ := hrel
    obtain ⟨v, hv⟩ : ∃ v, v = u5 := ⟨_, rfl⟩
    subst hv
    by_cases hlt : (k : Int) < m
    · go_upto_region 9 with (refine step_st1 (by rfl) _ _ rfl g 0 (.int .i64 k) (by rfl) (by rfl) rfl (by kernel_rfl) rfl (cnL ⟨I, O, D, cj, cs, cp, cu⟩) (by simp [cnL]) HB.out.bk ?_; intro w4 H4)
      have H5 : Hid (Lk w w1 w4 g v (lik O D cj cs cp cu k) k O D cj cs cp cu) := by
        have h1 := HB.out
        refine ⟨h1.ow.mod H4.out.gr (fun e => ?_), H4.out.below h1.be h1.be.size h1.g0, H4.out.bk, by rw [H4.out.sz]; exact h1.sz, h1.g0, h1.g1⟩
        have := (h1.ow.ownlt g e).1
        have := h1.g1
        omega
      clear H4 HB
      have HS : Hid (∀ j u, (cnL ⟨(k : Int), O, D, cj, cs, cp, cu⟩)[j]? = some u → w4.cell? ((⟨g, 0, none⟩ : Addr).add j) = some u) := cells_of H5.out.bk
      have HLn : Hid (((lik O D cj cs cp cu k).map cnL).length ≤ 20) := by
        show _ ≤ _
        rw [List.length_map, lik_len]; have := HZ.out; omega
      go_wp2_with (first
        | (refine step_ldat 26 _ rfl rfl ⟨g, 0, none⟩ (by rfl) (cnL ⟨(k : Int), O, D, cj, cs, cp, cu⟩) _ Try.underlying26 rfl (by kernel_rfl) HS.out ?_)
        | (refine step_bsL (by rfl) 22 26 _ rfl (.agg (cnL ⟨(k : Int), O, D, cj, cs, cp, cu⟩).toArray) (cnL ⟨(k : Int), O, D, cj, cs, cp, cu⟩) (by rfl) (run_bsC ⟨(k : Int), O, D, cj, cs, cp, cu⟩) ?_; intro w6 g6 H7)
        | (at_builtin; refine step_apL tiC rfl _ _ rfl w1.heap.size g6 v (cnL ⟨(k : Int), O, D, cj, cs, cp, cu⟩) (by rfl) (by rfl) rfl (cnL_one _) w4 _ ?_ ?_ H5.out.ow H7.out H5.out.sz ?_; (have := HLn.out; simp only [maxLen]; omega); (have := HLn.out; omega); intro v7 w7 H8))
      go_roundw
      case rel =>
        have h1 := H5.out
        refine ⟨k + 1, k, by go_num, by omega, ⟨?_, h1.be.trans (H8.out.2.mono (by have := h1.g0; have := h1.g1; omega)), h1.bk.kept (H8.out.2.block _ h1.g1), Nat.le_trans h1.sz H8.out.2.size, h1.g0, h1.g1⟩⟩
        rw [lik_succ, List.map_append]
        exact H8.out.1
      case measure => simp [intOf]; omega
    · have hkm : k = m := by omega
      subst hkm
      obtain ⟨w4, hw4⟩ : ∃ w4, w4 = wr := ⟨_, rfl⟩
      subst hw4
      obtain ⟨xs, hxs⟩ : ∃ xs, lik O D cj cs cp cu k = xs := ⟨_, rfl⟩
      have hct : ct ⟨0, O, D, cj, cs, cp, cu⟩ = true := by rw [ct_iff]; simp only; omega
      have HM := same_mt (l := xs) (c := ⟨0, O, D, cj, cs, cp, cu⟩) (by rw [← hxs, lik_len]; have := HZ.out; omega) (by rw [← hxs, lik_len]; have := HZ.out; omega) hct (by rw [← hxs]; exact lik_all _ _ _ _ _ _ _)
      obtain ⟨A, hA⟩ : ∃ A, lo ⟨0, O, D, cj, cs, cp, cu⟩ * 65536 = A := ⟨_, rfl⟩
      obtain ⟨B, hB⟩ : ∃ B, hi ⟨0, O, D, cj, cs, cp, cu⟩ * 65536 = B := ⟨_, rfl⟩
      have hA1 : A ≤ O - D ∧ O - D < A + 65536 := by rw [← hA]; unfold lo; simp only; omega
      have hB1 : O + D ≤ B ∧ B - 65536 < O + D := by rw [← hB]; unfold hi; simp only; omega
      rw [hxs] at HB
      have hl := lik_len O D cj cs cp cu k
      rw [hxs] at hl
      have CM : Hid (Calls Try.prog 10 #[v] w4 fun e w' => e = .returned (.tuple #[.int .i64 A, .int .i64 B, .bool true]) ∧ Hid (Below w4.heap.size w4 w')) := by
        have := meet_any v xs w4 w4.heap.size HB.out.ow.rk (Nat.le_refl _) (by rw [hl]; have := HZ.out; omega)
        have e : mtL xs = some (lo ⟨0, O, D, cj, cs, cp, cu⟩, hi ⟨0, O, D, cj, cs, cp, cu⟩) := HM.1
        rw [e] at this
        simp only [mA, mB, hA, hB] at this
        exact this
      have CS : Hid (∀ u, Below w4.heap.size w4 u → Calls Try.prog 12 #[v] u fun e w' => ∃ s, e = .returned s ∧ Hid (OR w' u.heap.size 26 7 s (xs.map cnL)) ∧ Hid (Below u.heap.size u w')) := fun u hu => by
        have := survivors_any v xs u u.heap.size (HB.out.ow.below hu (Nat.le_refl _)).rk (Nat.le_refl _) (by rw [hl]; have := HZ.out; omega)
        rw [HM.2] at this
        exact this
      have HX : Hid ((xs.map cnL).length = k) := by show _ = _; rw [List.length_map]; exact hl
      obtain ⟨hA2, hA3⟩ := hA1
      obtain ⟨hB2, hB3⟩ := hB1
      clear HM hA hB hct hl hxs hlt
      go_upto_region 11 with (go_at_call 10; refine CM.out.mono ?_; rintro e w5 ⟨rfl, hb5⟩)
      have CS2 : Hid (Calls Try.prog 12 #[v] w5 fun e w' => ∃ s, e = .returned s ∧ Hid (OR w' w5.heap.size 26 7 s (xs.map cnL)) ∧ Hid (Below w5.heap.size w5 w')) := CS.out w5 hb5.out
      go_upto_region 12 with (go_at_call 12; refine CS2.out.mono ?_; rintro e w6 ⟨s, rfl, O6, hb6⟩)
      obtain ⟨ao, cap, hs⟩ := or_len O6.out
      rw [HX.out] at hs
      subst hs
      have HF : Hid (Bk g w6 (cnL ⟨I, O, D, cj, cs, cp, cu⟩).toArray 26 ∧ Below w.heap.size w w6) := by
        have hb := below_thru hb5.out hb6.out
        exact ⟨HB.out.bk.kept (hb.block _ HB.out.bk.lt), HB.out.be.trans (hb.mono HB.out.be.size)⟩
      have c1 : w6.cell? ⟨g, 1, none⟩ = some (.int .i64 O) := HF.out.1.cell 1
      have c2 : w6.cell? ⟨g, 2, none⟩ = some (.int .i64 D) := HF.out.1.cell 2
      have q1 : ((k : Int) == (k : Int)) = true := by simp
      clear hb5 hb6 O6 CM CS CS2 HB
      go_wp2_with fail
      rw [hQ.out]
      go_ret
      exact ⟨rfl, HF.out.2⟩
end Go.Proofs.Ytepbbaeamlimaaa
