/- choose: the reference's All. -/
import Derived.Test.YtepbbaeamlimaabUT
namespace Go.Proofs.Ytepbbaeamlimaab
open Go Go.RowKit Go.Sort Ch Pu
set_option linter.unusedVariables false
theorem run_bsD (z : Int) (u : World) : (Instr.buildSlice 36 1 #[(0, .agg (edL z).toArray)]).run Try.prog u = .ok (.slice (some ⟨u.heap.size, 0, none⟩) 1 1) (u.alloc (.cells (edL z).toArray 39)) := by
  kernel_rfl
theorem step_bsE {ops : Array Oper} {rest : List Oper} {o : Oper} {a : Act} {w : World} {Q : Exit → Act → World → Prop} (hw : Region.wanted o (yielded ops a.tmps) = true) (z : Int) (x : Operand) (ho : o.op = .buildSlice 36 1 #[(0, x)]) (hx : a.eval x = .agg (edL z).toArray)
    (h : wpList Try.prog ops Q rest (a.put o.dst (.slice (some ⟨w.heap.size, 0, none⟩) 1 1)) (w.alloc (.cells (edL z).toArray 39))) : wpList Try.prog ops Q (o :: rest) a w :=
  wpList_step fun K hK => by
    rw [if_pos hw]
    unfold Oper.wp execOp
    simp only [ho, List.map_toArray, List.map_cons, List.map_nil, hx, Sem.run_bind, Sem.run_pure, run_bsD, Result.andThen_ok]
    exact hK _ _ h
/-- a candidate's ends, as they were built -/
theorem sv_three (w : World) (c : Cn) : Sv2 (w.alloc (.cells #[.int .i64 (lo c), .int .i64 (-1), .int .i64 (mi c), .int .i64 0, .int .i64 (hi c), .int .i64 1] 39)) w.heap.size (.slice (some ⟨w.heap.size, 0, none⟩) 3 3) (en c) := by
  refine ⟨some ⟨w.heap.size, 0, none⟩, 3, rfl, by simp [en], fun e => (by cases e), fun ad e => (by injection e with e; rw [← e]; simp), fun i hi => ⟨_, rfl, fun j u hu => ?_⟩⟩
  have hb : Bk w.heap.size (w.alloc (.cells #[.int .i64 (lo c), .int .i64 (-1), .int .i64 (mi c), .int .i64 0, .int .i64 (Ch.hi c), .int .i64 1] 39)) #[.int .i64 (lo c), .int .i64 (-1), .int .i64 (mi c), .int .i64 0, .int .i64 (Ch.hi c), .int .i64 1] 39 := Bk.new _ _ _
  rw [add_own, add_at, hb.cell]
  have hi3 : i < 3 := hi
  have hj : j < 2 := by
    rcases Nat.lt_or_ge j 2 with h | h
    · exact h
    · rw [List.getElem?_eq_none (by exact h)] at hu; cases hu
  rcases (show i = 0 ∨ i = 1 ∨ i = 2 by omega) with rfl | rfl | rfl <;> rcases (show j = 0 ∨ j = 1 by omega) with rfl | rfl
  all_goals
    simp [en, edL, plc_l, plc_m, plc_h] at hu
    subst hu
    rfl
theorem below_of_drw {w w' : World} (h : Below w.heap.size w.drew w') : Below w.heap.size w w' := ((Below.refl _ _).drew).trans h
theorem en_take {c : Cn} {j : Nat} {z : Int} (h : (en c)[j]? = some z) : (en c).take (j + 1) = (en c).take j ++ [z] := take_snoc h
set_option maxRecDepth 20000 in
set_option maxHeartbeats 4000000 in
theorem rall_any (v : Value) (l : List Cn) (w : World) (N : Nat) (h : Rk N w 7 v (l.map cnL)) (hN : N ≤ w.heap.size) (hl : l.length ≤ 1000000) : Calls Try.prog 11 #[v] w fun e w' => ∃ u, e = .returned u ∧ Hid (Sv2 w' w.heap.size u (E l)) ∧ Hid (Below w.heap.size w w') := by
  have HC : Hid (∀ u, Below w.heap.size w u → Calls Try.prog 12 #[v] u fun e w' => ∃ x, e = .returned x ∧ Hid (OR w' u.heap.size 25 7 x ((th l).map cnL)) ∧ Hid (Below u.heap.size u w')) := fun u hu => those_any v l u N (h.below hu hN) (Nat.le_trans hN hu.size) hl
  clear h hN hl
  obtain ⟨T, hT⟩ : ∃ T, th l = T := ⟨_, rfl⟩
  have HT : Hid (E l = srt (raw T) ∧ T.length ≤ 64 ∧ ∀ c ∈ T, ct c = true) := ⟨by unfold E; rw [hT], by rw [← hT]; exact th_len l, fun c hc => by rw [← hT] at hc; exact th_ct hc⟩
  rw [hT] at HC
  clear hT
  obtain ⟨m, hm⟩ : ∃ m, T.length = m := ⟨_, rfl⟩
  have HM : Hid (T.length = m) := hm
  have hm64 : (m : Int) ≤ 64 := by have := HT.out.2.1; omega
  clear hm
  go_enter Try.func11, Try.ntmps11
  refine post_hid fun Q hQ => ?_
  go_upto_region 2 with (fail)
  have HA0 : Hid (Sv2 (w.alloc (.cells #[] 39)) w.heap.size (.slice (some ⟨w.heap.size, 0, none⟩) 0 0) [] ∧ Below w.heap.size w (w.alloc (.cells #[] 39))) := ⟨O2.sv (OR.fresh w _ _ _ (Nat.le_refl _) : O2 _ _ _ []), (Below.refl _ _).alloc (Nat.le_refl _) _⟩
  obtain ⟨w0, hw0⟩ : ∃ w0, w0 = w.alloc (.cells #[] 39) := ⟨_, rfl⟩
  rw [← hw0] at HA0
  rw [← hw0]
  clear hw0
  have HC2 : Hid (Calls Try.prog 12 #[v] w0 fun e w' => ∃ x, e = .returned x ∧ Hid (OR w' w0.heap.size 25 7 x (T.map cnL)) ∧ Hid (Below w0.heap.size w0 w')) := HC.out w0 HA0.out.2
  clear HC
  go_wp2_with (go_at_call 12; refine HC2.out.mono ?_; rintro e w1 ⟨u1, rfl, H1, H2⟩; obtain ⟨ao, cap, hu1⟩ := or_len H1.out; rw [List.length_map, HM.out] at hu1; subst hu1)
  obtain ⟨ao', cap', hv', hcap', hr⟩ := cands_read H1.out.rk
  rw [HM.out] at hv'
  obtain ⟨rfl, rfl⟩ : ao = ao' ∧ cap = cap' := by injection hv' with a b c; exact ⟨a, c⟩
  have HR : Hid (∀ w', Below w1.heap.size w1 w' → ∀ (i : Nat) c, T[i]? = some c → ∃ ad, ao = some ad ∧ ∀ j u, (cnL c)[j]? = some u → w'.cell? ((ad.add (i * 7)).add j) = some u) := fun w' hb i c hc => by
    obtain ⟨ad, h1, _, h2⟩ := hr w' (below_cells hb (Nat.le_refl _)) i c hc
    exact ⟨ad, h1, h2⟩
  have HB1 : Hid (Sv2 w1 w.heap.size (.slice (some ⟨w.heap.size, 0, none⟩) 0 0) [] ∧ Below w.heap.size w w1) := ⟨HA0.out.1.below H2.out (Nat.le_refl _), HA0.out.2.trans (H2.out.mono HA0.out.2.size)⟩
  clear hr hv' hcap' HC2 HA0 H1 H2
  go_loopw [3, 5] (fun v3 i wr => ∃ (k : Nat), i = .int .i64 k ∧ (k : Int) ≤ m ∧ Hid (Sv2 wr w.heap.size v3 (srt (raw (T.take k))) ∧ Below w1.heap.size w1 wr)) (fun _ i _ => m - (intOf i).toNat)
  case atStart =>
    refine ⟨0, rfl, by omega, ⟨?_, Below.refl _ _⟩⟩
    rw [List.take_zero, raw_nil, (List.length_eq_zero_iff.1 (by rw [srt_len]; rfl) : srt [] = [])]
    exact HB1.out.1
  case round =>
    obtain ⟨k, rfl, hk, HB⟩ := hrel
    obtain ⟨wa, hwa⟩ : ∃ wa, wa = wr := ⟨_, rfl⟩
    subst hwa
    obtain ⟨v3, hv3⟩ : ∃ v3, v3 = u3 := ⟨_, rfl⟩
    subst hv3
    by_cases hlt : (k : Int) < m
    · have hkl : k < T.length := by rw [HM.out]; omega
      obtain ⟨c, hc⟩ : ∃ c, T[k]? = some c := ⟨_, List.getElem?_eq_getElem hkl⟩
      obtain ⟨ad, g1, g3⟩ := HR.out wa HB.out.2 k c hc
      have hix := ix_C m cap k g1 hlt
      obtain ⟨al, hal⟩ : ∃ al, ad.add (k * 7) = al := ⟨_, rfl⟩
      rw [hal] at hix g3
      have HK : Hid (raw (T.take (k + 1)) = raw (T.take k) ++ en c ∧ ct c = true ∧ (raw (T.take k)).length ≤ 192) := by
        refine ⟨by rw [take_snoc hc, raw_snoc], HT.out.2.2 c (List.mem_of_getElem? hc), ?_⟩
        rw [raw_len, List.length_take]; have := HT.out.2.1; omega
      obtain ⟨b0, b1, b2, b3⟩ := ct_iff.1 HK.out.2.1
      have HV : Hid (∀ U : World, Sv2 (U.alloc (.cells #[.int .i64 (lo c), .int .i64 (-1), .int .i64 (mi c), .int .i64 0, .int .i64 (hi c), .int .i64 1] 39)) U.heap.size (.slice (some ⟨U.heap.size, 0, none⟩) 3 3) (en c)) := fun U => sv_three U c
      obtain ⟨E3, hE3⟩ : ∃ E3, en c = E3 := ⟨_, rfl⟩
      rw [hE3] at HK HV
      have HE3 : Hid (E3.length = 3) := by show _ = _; rw [← hE3]; rfl
      obtain ⟨ci, co, cd, cj, cs, cp, cu⟩ := c
      simp only at b0 b1 b2 b3
      unfold lo mi Ch.hi at HV
      simp only at HV
      have q1 : wa.cell? ⟨al.block, al.off + 1, none⟩ = some (.int .i64 co) := g3 1 _ rfl
      have q2 : wa.cell? ⟨al.block, al.off + 2, none⟩ = some (.int .i64 cd) := g3 2 _ rfl
      have HD : Hid (∀ s u, -9223372036854775807 ≤ s → s ≤ 9223372036854775807 → Calls Try.prog 20 #[.int .i64 s] u fun e w' => e = .returned (.int .i64 (s / 65536)) ∧ w' = u) := fun s u h0 h1 => down_any s h0 h1 u
      obtain ⟨P1, hP1⟩ : ∃ P, co - cd = P := ⟨_, rfl⟩
      obtain ⟨P2, hP2⟩ : ∃ P, co + cd = P := ⟨_, rfl⟩
      obtain ⟨P3, hP3⟩ : ∃ P, -P2 = P := ⟨_, rfl⟩
      obtain ⟨P4, hP4⟩ : ∃ P, -(P3 / 65536) = P := ⟨_, rfl⟩
      rw [hP1, hP2, hP3, hP4] at HV
      have hw1 : IntKind.i64.wrap (co - cd) = P1 := by rw [IntKind.wrap_i64]; omega
      have hw2 : IntKind.i64.wrap (co + cd) = P2 := by rw [IntKind.wrap_i64]; omega
      have hw3 : IntKind.i64.wrap (-P2) = P3 := by rw [IntKind.wrap_i64]; omega
      have hw4 : IntKind.i64.wrap (-(P3 / 65536)) = P4 := by rw [IntKind.wrap_i64]; omega
      have r1 : -2305843009213693952 ≤ P1 := by omega
      have r2 : P1 ≤ 2305843009213693952 := by omega
      have r3 : -2305843009213693952 ≤ P3 := by omega
      have r4 : P3 ≤ 2305843009213693952 := by omega
      clear g1 g3 hc hkl hal hE3 hP1 hP2 hP3 hP4
      go_upto_region 6 with (fail)
      go_region_held3 (fun w' => w'.cell? ⟨al.block, al.off + 1, none⟩ = some (.int .i64 co) ∧ w'.cell? ⟨al.block, al.off + 2, none⟩ = some (.int .i64 cd)) (first | exact ⟨q1, q2⟩ | go_keep)
        ((go_at_call 20; refine (HD.out _ _ (by omega) (by omega)).mono ?_; rintro e w9 ⟨rfl, hw9⟩; rw [hw9]; clear hw9))
      obtain ⟨W2, hW2⟩ : ∃ W2, W2 = (wa.alloc (.cells #[.int .i64 (P1 / 65536), .int .i64 (-1), .int .i64 (co / 65536), .int .i64 0, .int .i64 P4, .int .i64 1] 39)).drew := ⟨_, rfl⟩
      have HS2 : Hid (Sv2 W2 wa.heap.size (.slice (some ⟨wa.heap.size, 0, none⟩) 3 3) E3 ∧ Below w1.heap.size w1 W2 ∧ w.heap.size ≤ W2.heap.size ∧ Sv2 W2 w.heap.size v3 (srt (raw (T.take k)))) := by
        have hb : Below wa.heap.size wa W2 := by rw [hW2]; exact ((Below.refl _ _).alloc (Nat.le_refl _) _).drew
        have hs := hb.size
        refine ⟨by rw [hW2]; exact (HV.out wa).kept (Nat.le_refl _) (fun _ _ _ => rfl), HB.out.2.trans (hb.mono HB.out.2.size), ?_, HB.out.1.below hb (Nat.le_refl _)⟩
        have := HB1.out.2.size
        have := HB.out.2.size
        omega
      rw [← hW2]
      clear hW2 q1 q2 hix HV HD hw1 hw2 hw3 hw4 r1 r2 r3 r4 b0 b1 b2 b3 HB
      obtain ⟨X0, hX0⟩ : ∃ X0, raw (T.take k) = X0 := ⟨_, rfl⟩
      rw [hX0] at HK HS2
      clear hX0
      obtain ⟨G3, hG3⟩ : ∃ G, wa.heap.size = G := ⟨_, rfl⟩
      rw [hG3] at HS2
      rw [hG3]
      clear hG3
      go_wp2_with fail
      go_loopw [3, 7] (fun x3 x7 wi => ∃ (j : Nat), x7 = .int .i64 j ∧ (j : Int) ≤ 3 ∧ Hid (Sv2 wi w.heap.size x3 (srt (X0 ++ E3.take j)) ∧ Below W2.heap.size W2 wi)) (fun _ x7 _ => 3 - (intOf x7).toNat)
      case atStart => exact ⟨0, rfl, by omega, ⟨by rw [List.take_zero, List.append_nil]; exact HS2.out.2.2.2, Below.refl _ _⟩⟩
      case round =>
        obtain ⟨j, rfl, hj3, HT2⟩ := hrel
        obtain ⟨wb, hwb⟩ : ∃ wb, wb = wr := ⟨_, rfl⟩
        subst hwb
        obtain ⟨y3, hy3⟩ : ∃ y, y = u3 := ⟨_, rfl⟩
        subst hy3
        by_cases hj : (j : Int) < 3
        · have hje : j < E3.length := by rw [HE3.out]; omega
          obtain ⟨z, hz⟩ : ∃ z, E3[j]? = some z := ⟨_, List.getElem?_eq_getElem hje⟩
          obtain ⟨al, hixl, hab, hac⟩ := (HS2.out.1.below HT2.out.2 (Nat.le_refl _)).at j hje
          have hzd : E3.getD j 0 = z := by rw [List.getD_eq_getElem?_getD, hz]; rfl
          rw [hzd] at hac
          obtain ⟨X, hX⟩ : ∃ X, X0 ++ E3.take j = X := ⟨_, rfl⟩
          have HJ : Hid (X.length ≤ 194 ∧ srt (X0 ++ E3.take (j + 1)) = srt (X ++ [z])) := by
            refine ⟨?_, by rw [take_snoc hz, ← List.append_assoc, hX]⟩
            rw [← hX, List.length_append, List.length_take]
            have := HK.out.2.2
            omega
          rw [hX] at HT2
          obtain ⟨es, hes⟩ : ∃ es, srt X = es := ⟨_, rfl⟩
          obtain ⟨L, hL⟩ : ∃ L, es.length = L := ⟨_, rfl⟩
          have HX : Hid (es.length = L ∧ L ≤ 194 ∧ srt X = es ∧ X.length = L) := by
            have : X.length = L := by rw [← hL, ← hes, srt_len]
            exact ⟨hL, by have := HJ.out.1; omega, hes, this⟩
          rw [hes] at HT2
          have hL194 : (L : Int) ≤ 194 := by have := HX.out.2.1; omega
          have hlv := HT2.out.1.len
          rw [hL] at hlv
          have HAL : Hid ((∀ i u, (edL z)[i]? = some u → wb.cell? (al.add i) = some u) ∧ al.block < wb.heap.size) := ⟨hac, hab.2⟩
          obtain ⟨yo, yn, yc, rfl⟩ : ∃ ao n cap, y3 = .slice ao n cap := by obtain ⟨ao, cap, e, _⟩ := HT2.out.1.ex; exact ⟨ao, _, cap, e⟩
          clear hje hz hzd hac hab hX hes hL
          go_wp2_with fail
          go_loopw [8] (fun x8 wi => ∃ (p : Nat), x8 = .int .i64 p ∧ (p : Int) ≤ L ∧ Hid ((∀ i, i < p → es.getD i 0 ≤ z) ∧ Sv2 wi w.heap.size (.slice yo yn yc) es ∧ Below W2.heap.size W2 wi ∧ Below wb.heap.size wb wi)) (fun x8 _ => L - (intOf x8).toNat)
          case atStart => exact ⟨0, rfl, by omega, ⟨fun i hi => by omega, HT2.out.1, HT2.out.2, Below.refl _ _⟩⟩
          case round =>
            obtain ⟨p, rfl, hp, HP⟩ := hrel
            have HCA : Hid (∀ i u, (edL z)[i]? = some u → wr.cell? (al.add i) = some u) := fun i u hu => (HP.out.2.2.2.cell (p := al.add i) (by rw [add_block]; exact HAL.out.2)).trans (HAL.out.1 i u hu)
            by_cases hpl : (p : Int) < L
            · have hpe : p < es.length := by rw [HX.out.1]; omega
              obtain ⟨bl, hixp, hbb, hbc⟩ := HP.out.2.1.at p hpe
              obtain ⟨y, hy⟩ : ∃ y, es.getD p 0 = y := ⟨_, rfl⟩
              rw [hy] at hbc
              have CL : Hid (∀ u, Calls Try.prog 21 #[.agg (edL z).toArray, .agg (edL y).toArray] u fun e w' => e = .returned (.bool (decide (z < y))) ∧ Below u.heap.size u w') := fun u => less_any z y u
              have HY : Hid (es.getD p 0 = y) := hy
              have a0 : wr.cell? al = some (.int .i64 (plc z)) := HCA.out 0 _ rfl
              have a1 : wr.cell? ⟨al.block, al.off + 1, none⟩ = some (.int .i64 (kd z)) := HCA.out 1 _ rfl
              have d0 : wr.cell? bl = some (.int .i64 (plc y)) := hbc 0 _ rfl
              have d1 : wr.cell? ⟨bl.block, bl.off + 1, none⟩ = some (.int .i64 (kd y)) := hbc 1 _ rfl
              have HCC : Hid (∀ u, Below wr.heap.size wr u → u.cell? al = some (.int .i64 (plc z)) ∧ u.cell? ⟨al.block, al.off + 1, none⟩ = some (.int .i64 (kd z)) ∧ u.cell? bl = some (.int .i64 (plc y)) ∧ u.cell? ⟨bl.block, bl.off + 1, none⟩ = some (.int .i64 (kd y))) := fun u hu => by
                have ha : al.block < wr.heap.size := by have := HAL.out.2; have := HP.out.2.2.2.size; omega
                exact ⟨(hu.cell (p := al) ha).trans a0, (hu.cell (p := ⟨al.block, al.off + 1, none⟩) ha).trans a1, (hu.cell (p := bl) hbb.2).trans d0, (hu.cell (p := ⟨bl.block, bl.off + 1, none⟩) hbb.2).trans d1⟩
              have CL0 : Hid (∀ u, Calls Try.prog 21 #[.agg #[.int .i64 (plc z), .int .i64 (kd z)], .agg #[.int .i64 (plc y), .int .i64 (kd y)]] u fun e w' => e = .returned (.bool (decide (z < y))) ∧ Below u.heap.size u w') := CL.out
              obtain ⟨A0, hA0⟩ : ∃ A, plc z = A := ⟨_, rfl⟩
              obtain ⟨A1, hA1⟩ : ∃ A, kd z = A := ⟨_, rfl⟩
              obtain ⟨B0, hB0⟩ : ∃ A, plc y = A := ⟨_, rfl⟩
              obtain ⟨B1, hB1⟩ : ∃ A, kd y = A := ⟨_, rfl⟩
              rw [hA0, hA1, hB0, hB1] at CL0 HCC
              rw [hA0] at a0
              rw [hA1] at a1
              rw [hB0] at d0
              rw [hB1] at d1
              clear hpe hbb hbc hy CL hA0 hA1 hB0 hB1
              by_cases hzy : z < y
              · have HINS : Hid (srt (X ++ [z]) = es.take p ++ ([z] ++ es.drop p)) := by
                  have := srt_ins X z p (by have := HX.out; omega) (fun i hi => by rw [HX.out.2.2.1]; exact HP.out.1 i hi) (fun _ => by rw [HX.out.2.2.1, HY.out]; exact hzy)
                  rw [HX.out.2.2.1] at this
                  exact this
                have CL : Hid (∀ u, Calls Try.prog 21 #[.agg #[.int .i64 A0, .int .i64 A1], .agg #[.int .i64 B0, .int .i64 B1]] u fun e w' => e = .returned (.bool true) ∧ Below u.heap.size u w') := fun u => by
                  have := CL0.out u
                  rw [decide_eq_true hzy] at this
                  exact this
                clear CL0
                go_upto_region 11 with (fail)
                go_region_held3 (fun w' => w'.cell? al = some (.int .i64 A0) ∧ w'.cell? ⟨al.block, al.off + 1, none⟩ = some (.int .i64 A1) ∧ w'.cell? bl = some (.int .i64 B0) ∧ w'.cell? ⟨bl.block, bl.off + 1, none⟩ = some (.int .i64 B1))
                  (first | with_reducible exact k5 | with_reducible exact ⟨a0, a1, d0, d1⟩ | go_keep)
                  ((go_at_call 21; refine (CL.out _).mono ?_; rintro e U ⟨rfl, hb5⟩; have HB5 : Hid (Below wr.heap.size wr U) := (by first | exact hb5 | exact below_of_drw hb5); have k5 := HCC.out U HB5.out; clear hb5))
                clear k5
                clear CL HCC a0 a1 d0 d1
                have HU : Hid (Sv2 U w.heap.size (.slice yo yn yc) es ∧ Below W2.heap.size W2 U ∧ (∀ j u, (edL z)[j]? = some u → U.cell? (al.add j) = some u) ∧ al.block < U.heap.size) := ⟨HP.out.2.1.below HB5.out (Nat.le_refl _), HP.out.2.2.1.trans (HB5.out.mono HP.out.2.2.1.size), fun i u hu => (HB5.out.cell (p := al.add i) (by rw [add_block]; have := HAL.out.2; have := HP.out.2.2.2.size; omega)).trans (HCA.out i u hu), by have := HAL.out.2; have := HP.out.2.2.2.size; have := HB5.out.size; omega⟩
                clear HP HAL HB5 HCA HT2 hixp
                have hA : O2 (U.alloc (.cells #[] 39)) U.heap.size (.slice (some ⟨U.heap.size, 0, none⟩) 0 0) [] := OR.fresh U _ _ _ (Nat.le_refl _)
                obtain ⟨v1, hs1, hv1⟩ := HU.out.1.take p (by have := HX.out.1; omega)
                obtain ⟨v5, hs5, hv5⟩ := HU.out.1.drop p (by have := HX.out.1; omega)
                have bA : Below U.heap.size U (U.alloc (.cells #[] 39)) := (Below.refl _ _).alloc (Nat.le_refl _) _
                obtain ⟨v2, U2, hr1, ho2, hb2⟩ := run_app2 (U.alloc (.cells #[] 39)) U.heap.size w.heap.size _ v1 _ _ hA (hv1.below bA (Nat.le_refl _)) (by rw [List.length_take]; have := HX.out.1; have := HX.out.2.1; simp; omega) (by simp)
                have b2 : Below U.heap.size U U2 := bA.trans hb2
                obtain ⟨v4, U4, hr2, ho4, hb4⟩ := run_app2 (U2.alloc (.cells (edL z).toArray 39)) U.heap.size _ v2 _ _ _ (OR.alloc ho2 _) (sv_one U2 z) (by simp; have := HX.out.1; have := HX.out.2.1; omega) (by have := b2.size; simp; omega)
                have b4 : Below U.heap.size U U4 := (b2.alloc b2.size _).trans hb4
                obtain ⟨v6, U6, hr3, ho6, hb6⟩ := run_app2 U4 U.heap.size w.heap.size v4 v5 _ _ ho4 (hv5.below b4 (Nat.le_refl _)) (by simp; have := HX.out.1; have := HX.out.2.1; omega) b4.size
                have b6 : Below U.heap.size U U6 := b4.trans hb6
                have HR1 : Hid ((Builtin.append_ #[36, 36] 36 #[.slice (some ⟨U.heap.size, 0, none⟩) 0 0, v1]).run Try.prog (U.alloc (.cells #[] 39)) = .ok v2 U2) := hr1
                have HR2 : Hid ((Builtin.append_ #[36, 36] 36 #[v2, .slice (some ⟨U2.heap.size, 0, none⟩) 1 1]).run Try.prog (U2.alloc (.cells (edL z).toArray 39)) = .ok v4 U4) := hr2
                have HR3 : Hid ((Builtin.append_ #[36, 36] 36 #[v4, v5]).run Try.prog U4 = .ok v6 U6) := hr3
                have HCl : Hid (∀ j u, (edL z)[j]? = some u → U2.cell? (al.add j) = some u) := fun j u hu => (b2.cell (p := al.add j) (by rw [add_block]; exact HU.out.2.2.2)).trans (HU.out.2.2.1 j u hu)
                have HE : Hid (Sv2 U6 w.heap.size v6 (srt (X ++ [z])) ∧ Below W2.heap.size W2 U6) := by
                  refine ⟨?_, HU.out.2.1.trans (b6.mono HU.out.2.1.size)⟩
                  rw [HINS.out]
                  have e : [] ++ es.take p ++ [z] ++ es.drop p = es.take p ++ ([z] ++ es.drop p) := by simp
                  rw [e] at ho6
                  exact (O2.sv ho6).mono (by have := HU.out.2.1.size; have := HS2.out.2.2.1; omega)
                clear hA hv1 hv5 bA hr1 ho2 hb2 b2 hr2 ho4 hb4 b4 hr3 ho6 hb6 b6
                go_wp2_with (first
                  | (refine step_ldat 39 _ rfl rfl al (by rfl) (edL z) _ Try.underlying39 rfl (by kernel_rfl) HCl.out ?_)
                  | (refine step_bsE (by rfl) z _ rfl (by rfl) ?_)
                  | (at_builtin; refine wpList_app2 rfl _ _ rfl rfl _ _ _ (by rfl) (by rfl) HR1.out ?_)
                  | (at_builtin; refine wpList_app2 rfl _ _ rfl rfl _ _ _ (by rfl) (by rfl) HR2.out ?_)
                  | (at_builtin; refine wpList_app2 rfl _ _ rfl rfl _ _ _ (by rfl) (by rfl) HR3.out ?_))
                go_roundw
                case rel =>
                  refine ⟨j + 1, by go_num, by omega, ?_⟩
                  rw [HJ.out.2]
                  exact HE
                case measure => simp [intOf]; omega
              · have HQ2 : Hid (∀ i, i < p + 1 → es.getD i 0 ≤ z) := fun i hi => by
                  rcases Nat.lt_or_ge i p with h1 | h1
                  · exact HP.out.1 i h1
                  · have e : i = p := by omega
                    rw [e, HY.out]; omega
                have CL : Hid (∀ u, Calls Try.prog 21 #[.agg #[.int .i64 A0, .int .i64 A1], .agg #[.int .i64 B0, .int .i64 B1]] u fun e w' => e = .returned (.bool false) ∧ Below u.heap.size u w') := fun u => by
                  have := CL0.out u
                  rw [decide_eq_false hzy] at this
                  exact this
                clear CL0
                go_upto_region 11 with (fail)
                go_region_held3 (fun w' => w'.cell? al = some (.int .i64 A0) ∧ w'.cell? ⟨al.block, al.off + 1, none⟩ = some (.int .i64 A1) ∧ w'.cell? bl = some (.int .i64 B0) ∧ w'.cell? ⟨bl.block, bl.off + 1, none⟩ = some (.int .i64 B1))
                  (first | with_reducible exact k5 | with_reducible exact ⟨a0, a1, d0, d1⟩ | go_keep)
                  ((go_at_call 21; refine (CL.out _).mono ?_; rintro e U ⟨rfl, hb5⟩; have HB5 : Hid (Below wr.heap.size wr U) := (by first | exact hb5 | exact below_of_drw hb5); have k5 := HCC.out U HB5.out; clear hb5))
                clear k5
                clear CL HCC a0 a1 d0 d1
                have HN2 : Hid (Sv2 U w.heap.size (.slice yo yn yc) es ∧ Below W2.heap.size W2 U ∧ Below wb.heap.size wb U) := ⟨HP.out.2.1.below HB5.out (Nat.le_refl _), HP.out.2.2.1.trans (HB5.out.mono HP.out.2.2.1.size), HP.out.2.2.2.trans (HB5.out.mono HP.out.2.2.2.size)⟩
                clear HP HB5 HCA
                go_wp2_with fail
                go_roundw
                case rel => exact ⟨p + 1, by go_num, by omega, ⟨HQ2.out, HN2.out⟩⟩
                case measure => simp [intOf]; omega
            · have hpL : p = L := by omega
              subst hpL
              have HINS : Hid (srt (X ++ [z]) = es.take p ++ ([z] ++ es.drop p)) := by
                have := srt_ins X z p (by have := HX.out; omega) (fun i hi => by rw [HX.out.2.2.1]; exact HP.out.1 i hi) (fun h => by have := HX.out; omega)
                rw [HX.out.2.2.1] at this
                exact this
              go_upto_region 11 with (fail)
              go_quiet (fail)
              obtain ⟨U, hU⟩ : ∃ U, U = wr.drewN nq := ⟨_, rfl⟩
              rw [← hU]
              have HB5 : Hid (Below wr.heap.size wr U) := (by show Below _ _ _; rw [hU]; exact below_dr (Below.refl _ _) _)
              clear hU
              have HU : Hid (Sv2 U w.heap.size (.slice yo yn yc) es ∧ Below W2.heap.size W2 U ∧ (∀ j u, (edL z)[j]? = some u → U.cell? (al.add j) = some u) ∧ al.block < U.heap.size) := ⟨HP.out.2.1.below HB5.out (Nat.le_refl _), HP.out.2.2.1.trans (HB5.out.mono HP.out.2.2.1.size), fun i u hu => (HB5.out.cell (p := al.add i) (by rw [add_block]; have := HAL.out.2; have := HP.out.2.2.2.size; omega)).trans (HCA.out i u hu), by have := HAL.out.2; have := HP.out.2.2.2.size; have := HB5.out.size; omega⟩
              clear HP HAL HB5 HCA HT2
              have hA : O2 (U.alloc (.cells #[] 39)) U.heap.size (.slice (some ⟨U.heap.size, 0, none⟩) 0 0) [] := OR.fresh U _ _ _ (Nat.le_refl _)
              obtain ⟨v1, hs1, hv1⟩ := HU.out.1.take p (by have := HX.out.1; omega)
              obtain ⟨v5, hs5, hv5⟩ := HU.out.1.drop p (by have := HX.out.1; omega)
              have bA : Below U.heap.size U (U.alloc (.cells #[] 39)) := (Below.refl _ _).alloc (Nat.le_refl _) _
              obtain ⟨v2, U2, hr1, ho2, hb2⟩ := run_app2 (U.alloc (.cells #[] 39)) U.heap.size w.heap.size _ v1 _ _ hA (hv1.below bA (Nat.le_refl _)) (by rw [List.length_take]; have := HX.out.1; have := HX.out.2.1; simp; omega) (by simp)
              have b2 : Below U.heap.size U U2 := bA.trans hb2
              obtain ⟨v4, U4, hr2, ho4, hb4⟩ := run_app2 (U2.alloc (.cells (edL z).toArray 39)) U.heap.size _ v2 _ _ _ (OR.alloc ho2 _) (sv_one U2 z) (by simp; have := HX.out.1; have := HX.out.2.1; omega) (by have := b2.size; simp; omega)
              have b4 : Below U.heap.size U U4 := (b2.alloc b2.size _).trans hb4
              obtain ⟨v6, U6, hr3, ho6, hb6⟩ := run_app2 U4 U.heap.size w.heap.size v4 v5 _ _ ho4 (hv5.below b4 (Nat.le_refl _)) (by simp; have := HX.out.1; have := HX.out.2.1; omega) b4.size
              have b6 : Below U.heap.size U U6 := b4.trans hb6
              have HR1 : Hid ((Builtin.append_ #[36, 36] 36 #[.slice (some ⟨U.heap.size, 0, none⟩) 0 0, v1]).run Try.prog (U.alloc (.cells #[] 39)) = .ok v2 U2) := hr1
              have HR2 : Hid ((Builtin.append_ #[36, 36] 36 #[v2, .slice (some ⟨U2.heap.size, 0, none⟩) 1 1]).run Try.prog (U2.alloc (.cells (edL z).toArray 39)) = .ok v4 U4) := hr2
              have HR3 : Hid ((Builtin.append_ #[36, 36] 36 #[v4, v5]).run Try.prog U4 = .ok v6 U6) := hr3
              have HCl : Hid (∀ j u, (edL z)[j]? = some u → U2.cell? (al.add j) = some u) := fun j u hu => (b2.cell (p := al.add j) (by rw [add_block]; exact HU.out.2.2.2)).trans (HU.out.2.2.1 j u hu)
              have HE : Hid (Sv2 U6 w.heap.size v6 (srt (X ++ [z])) ∧ Below W2.heap.size W2 U6) := by
                refine ⟨?_, HU.out.2.1.trans (b6.mono HU.out.2.1.size)⟩
                rw [HINS.out]
                have e : [] ++ es.take p ++ [z] ++ es.drop p = es.take p ++ ([z] ++ es.drop p) := by simp
                rw [e] at ho6
                exact (O2.sv ho6).mono (by have := HU.out.2.1.size; have := HS2.out.2.2.1; omega)
              clear hA hv1 hv5 bA hr1 ho2 hb2 b2 hr2 ho4 hb4 b4 hr3 ho6 hb6 b6
              go_wp2_with (first
                | (refine step_ldat 39 _ rfl rfl al (by rfl) (edL z) _ Try.underlying39 rfl (by kernel_rfl) HCl.out ?_)
                | (refine step_bsE (by rfl) z _ rfl (by rfl) ?_)
                | (at_builtin; refine wpList_app2 rfl _ _ rfl rfl _ _ _ (by rfl) (by rfl) HR1.out ?_)
                | (at_builtin; refine wpList_app2 rfl _ _ rfl rfl _ _ _ (by rfl) (by rfl) HR2.out ?_)
                | (at_builtin; refine wpList_app2 rfl _ _ rfl rfl _ _ _ (by rfl) (by rfl) HR3.out ?_))
              go_roundw
              case rel =>
                refine ⟨j + 1, by go_num, by omega, ?_⟩
                rw [HJ.out.2]
                exact HE
              case measure => simp [intOf]; omega
        · have hj3' : j = 3 := by omega
          subst hj3'
          have HE : Hid (Sv2 wb w.heap.size y3 (srt (raw (T.take (k + 1)))) ∧ Below w1.heap.size w1 wb) := by
            refine ⟨?_, HS2.out.2.1.trans (HT2.out.2.mono HS2.out.2.1.size)⟩
            have h1 := HT2.out.1
            rw [List.take_of_length_le (by rw [HE3.out]; exact Nat.le_refl _)] at h1
            rw [HK.out.1]
            exact h1
          clear HT2
          go_wp2_with fail
          go_roundw
          case rel => exact ⟨k + 1, by go_num, by omega, HE⟩
          case measure => simp [intOf]; omega
    · have HE : Hid (T.take k = T) := List.take_of_length_le (by rw [HM.out]; omega)
      go_wp2_with fail
      rw [hQ.out]
      go_ret
      have h1 := HB.out.1
      rw [HE.out, ← HT.out.1] at h1
      exact ⟨_, rfl, h1, HB1.out.2.trans (HB.out.2.mono HB1.out.2.size)⟩
end Go.Proofs.Ytepbbaeamlimaab
