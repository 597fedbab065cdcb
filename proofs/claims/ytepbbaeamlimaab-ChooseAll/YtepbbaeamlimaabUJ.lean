/- choose: Survivors. -/
import Derived.Test.YtepbbaeamlimaabUI
namespace Go.Proofs.Ytepbbaeamlimaab
open Go Go.RowKit Go.Sort Ch Pu
set_option linter.unusedVariables false
def svB (A B : Int) (c : Cn) : Bool := decide (A ≤ mi c * 65536 ∧ mi c * 65536 ≤ B)
theorem sv_mt {l : List Cn} {p q : Int} (h : mtL l = some (p, q)) : sv l = (th l).filter (svB (p * 65536) (q * 65536)) := sv_some h
theorem svB_snoc {A B : Int} {T : List Cn} {k : Nat} {c : Cn} (h : T[k]? = some c) : (T.take (k + 1)).filter (svB A B) = (T.take k).filter (svB A B) ++ if svB A B c = true then [c] else [] := by
  rw [take_snoc h, List.filter_append]
  congr 1
  by_cases hc : svB A B c = true
  · rw [if_pos hc, List.filter_cons_of_pos hc, List.filter_nil]
  · rw [if_neg hc, List.filter_cons_of_neg hc, List.filter_nil]
set_option maxRecDepth 20000 in
set_option maxHeartbeats 2000000 in
theorem survivors_any (v : Value) (l : List Cn) (w : World) (N : Nat) (h : Rk N w 7 v (l.map cnL)) (hN : N ≤ w.heap.size) (hl : l.length ≤ 1000000) : Calls Try.prog 8 #[v] w fun e w' => ∃ u, e = .returned u ∧ Hid (OR w' w.heap.size 25 7 u ((sv l).map cnL)) ∧ Hid (Below w.heap.size w w') := by
  have H0 : Hid (Rk N w 7 v (l.map cnL) ∧ N ≤ w.heap.size ∧ l.length ≤ 1000000) := ⟨h, hN, hl⟩
  obtain ⟨o, ho⟩ : ∃ o, mtL l = o := ⟨_, rfl⟩
  have HC : Hid (Calls Try.prog 6 #[v] w fun e w' => e = .returned (.tuple #[.int .i64 (mA o), .int .i64 (mB o), .bool o.isSome]) ∧ Hid (Below w.heap.size w w')) := by rw [← ho]; exact meet_any v l w N h hN hl
  have HO : Hid (mtL l = o) := ho
  clear h hN hl ho
  cases o with
  | none =>
    have HZ : Hid (sv l = []) := sv_none HO.out
    go_enter Try.func8, Try.ntmps8
    refine post_hid fun Q hQ => ?_
    go_wp2_with (go_at_call 6; refine HC.out.mono ?_; rintro e w1 ⟨rfl, H2⟩)
    rw [hQ.out]
    go_ret
    refine ⟨_, rfl, ?_, H2⟩
    rw [HZ.out]
    exact (OR.nil _ _ _ _ : OR _ _ _ _ (.slice none 0 0) [])
  | some r =>
    obtain ⟨p, q⟩ := r
    obtain ⟨A, hA⟩ : ∃ A, p * 65536 = A := ⟨_, rfl⟩
    obtain ⟨B, hB⟩ : ∃ B, q * 65536 = B := ⟨_, rfl⟩
    have HS : Hid (sv l = (th l).filter (svB A B)) := by rw [← hA, ← hB]; exact sv_mt HO.out
    have HC2 : Hid (Calls Try.prog 6 #[v] w fun e w' => e = .returned (.tuple #[.int .i64 A, .int .i64 B, .bool true]) ∧ Hid (Below w.heap.size w w')) := by rw [← hA, ← hB]; exact HC.out
    clear HC hA hB HO
    obtain ⟨T, hT⟩ : ∃ T, th l = T := ⟨_, rfl⟩
    have HT : Hid (th l = T ∧ T.length ≤ 64 ∧ ∀ c ∈ T, ct c = true) := ⟨hT, by rw [← hT]; exact th_len l, fun c hc => by rw [← hT] at hc; exact th_ct hc⟩
    rw [hT] at HS
    obtain ⟨m, hm⟩ : ∃ m, T.length = m := ⟨_, rfl⟩
    have HM : Hid (T.length = m) := hm
    have hm64 : (m : Int) ≤ 64 := by have := HT.out.2.1; omega
    clear hm hT
    go_enter Try.func8, Try.ntmps8
    refine post_hid fun Q hQ => ?_
    go_upto_region 5 with (go_at_call 6; refine HC2.out.mono ?_; rintro e w1 ⟨rfl, H2⟩)
    have HC3 : Hid (Calls Try.prog 13 #[v] w1 fun e w' => ∃ u, e = .returned u ∧ Hid (OR w' w1.heap.size 25 7 u (T.map cnL)) ∧ Hid (Below w1.heap.size w1 w')) := by
      rw [← HT.out.1]
      exact counting_any v l w1 N (H0.out.1.below H2.out H0.out.2.1) (Nat.le_trans H0.out.2.1 H2.out.size) H0.out.2.2
    go_wp2_with (go_at_call 13; refine HC3.out.mono ?_; rintro e w2 ⟨u1, rfl, H3, H4⟩; obtain ⟨ao, cap, hu1⟩ := or_len H3.out; rw [List.length_map, HM.out] at hu1; subst hu1)
    obtain ⟨ao', cap', hv', hcap', hr⟩ := cands_read H3.out.rk
    rw [HM.out] at hv'
    obtain ⟨rfl, rfl⟩ : ao = ao' ∧ cap = cap' := by injection hv' with a b c; exact ⟨a, c⟩
    have HR : Hid (∀ w', Below w2.heap.size w2 w' → ∀ (i : Nat) c, T[i]? = some c → ∃ ad, ao = some ad ∧ ∀ j u, (cnL c)[j]? = some u → w'.cell? ((ad.add (i * 7)).add j) = some u) := fun w' hb i c hc => by
      obtain ⟨ad, h1, _, h2⟩ := hr w' (below_cells hb (Nat.le_refl _)) i c hc
      exact ⟨ad, h1, h2⟩
    have HB2 : Hid (Below w.heap.size w w2) := below_thru H2.out H4.out
    clear hr hv' hcap' HC3 HC2
    go_loopw [6, 21] (fun v6 i wr => ∃ (k : Nat), i = .int .i64 k ∧ (k : Int) ≤ m ∧ Hid (OR wr w2.heap.size 25 7 v6 (((T.take k).filter (svB A B)).map cnL) ∧ Below w2.heap.size w2 wr)) (fun _ i _ => m - (intOf i).toNat)
    case atStart => exact ⟨0, rfl, by omega, ⟨OR.nil _ _ _ _, Below.refl _ _⟩⟩
    case round =>
      obtain ⟨k, rfl, hk, HB⟩ := hrel
      obtain ⟨v6, hv6⟩ : ∃ v6, v6 = u6 := ⟨_, rfl⟩
      subst hv6
      by_cases hlt : (k : Int) < m
      · have hkl : k < T.length := by rw [HM.out]; omega
        obtain ⟨c, hc⟩ : ∃ c, T[k]? = some c := ⟨_, List.getElem?_eq_getElem hkl⟩
        obtain ⟨ad, g1, g3⟩ := HR.out wr HB.out.2 k c hc
        have hix := ix_C m cap k g1 hlt
        have HSl : Hid (∀ j u, (cnL c)[j]? = some u → wr.cell? ((ad.add (k * 7)).add j) = some u) := g3
        have HK : Hid ((T.take (k + 1)).filter (svB A B) = (T.take k).filter (svB A B) ++ if svB A B c = true then [c] else []) := svB_snoc hc
        have HOZ : Hid (okZ (zm c)) := en_ok (HT.out.2.2 c (List.mem_of_getElem? hc)) (by simp [en])
        have HLn : Hid ((((T.take k).filter (svB A B)).map cnL).length ≤ 64) := by
          show _ ≤ _
          rw [List.length_map]
          have h1 := List.length_filter_le (svB A B) (T.take k)
          rw [List.length_take] at h1
          have := HT.out.2.1
          omega
        clear g1 g3 hc hkl
        go_upto_region 8 with (first
          | (refine step_ldat 25 _ rfl rfl (ad.add (k * 7)) (by rfl) (cnL c) _ Try.underlying25 rfl (by kernel_rfl) HSl.out ?_)
          | (refine step_alL (by rfl) 25 rfl (cnL zCn).toArray (fun u => by kernel_rfl) ?_; intro w3 g H3)
          | (refine step_stL (by rfl) _ _ rfl g (cnL c).toArray (by rfl) (by rfl) (cnL zCn).toArray (by kernel_rfl) (by kernel_rfl) (by kernel_rfl) H3.out.bk ?_; intro w4 H4))
        have H5 : Hid (OR w4 w2.heap.size 25 7 v6 (((T.take k).filter (svB A B)).map cnL) ∧ Below w2.heap.size w2 w4 ∧ Bk g w4 (cnL c).toArray 25) := by
          have hb := H4.out.below H3.out.be H3.out.be.size (Nat.le_of_eq H3.out.at'.symm)
          exact ⟨HB.out.1.below hb (Nat.le_refl _), below_thru HB.out.2 hb, H4.out.bk⟩
        clear H3 H4 HSl HB hix
        have HSc : Hid (∀ j u, (cnL c)[j]? = some u → w4.cell? ((⟨g, 0, none⟩ : Addr).add j) = some u) := cells_of (l := cnL c) H5.out.2.2
        have CM : Hid (∀ u, Calls Try.prog 15 #[.agg (cnL c).toArray] u fun e w' => e = .returned (enV (zm c)) ∧ Below u.heap.size u w') := middleEnd_any c
        obtain ⟨P, hP⟩ : ∃ P, mi c * 65536 = P := ⟨_, rfl⟩
        have CS : Hid (∀ u, Calls Try.prog 14 #[enV (zm c)] u fun e w' => e = .returned (.int .i64 P) ∧ w' = u) := fun u => by rw [← hP, ← (plc_m c).1]; exact spanOf_any (zm c) HOZ.out u
        have HX : Hid (svB A B c = decide (A ≤ P ∧ P ≤ B)) := by show _ = _; unfold svB; rw [hP]
        clear hP
        go_upto_region 9 with (first
          | (refine step_ldat 25 _ rfl rfl ⟨g, 0, none⟩ (by rfl) (cnL c) _ Try.underlying25 rfl (by kernel_rfl) HSc.out ?_)
          | (go_at_call 15; refine (CM.out w4).mono ?_; rintro e w5 ⟨rfl, hb5⟩; have H6 : Hid (OR w5 w2.heap.size 25 7 v6 (((T.take k).filter (svB A B)).map cnL) ∧ Below w2.heap.size w2 w5 ∧ Bk g w5 (cnL c).toArray 25) := ⟨H5.out.1.below hb5 (Nat.le_refl _), below_thru H5.out.2.1 hb5, H5.out.2.2.kept (hb5.block _ H5.out.2.2.lt)⟩; clear hb5)
          | (go_at_call 14; refine (CS.out w5).mono ?_; rintro e w9 ⟨rfl, hw9⟩; rw [hw9]; clear hw9))
        clear H5 HSc CM CS
        by_cases hx : A ≤ P ∧ P ≤ B
        · obtain ⟨hx1, hx2⟩ := hx
          have HT2 : Hid ((T.take (k + 1)).filter (svB A B) = (T.take k).filter (svB A B) ++ [c]) := by
            have := HK.out
            rw [HX.out, if_pos (by simp; omega)] at this
            exact this
          have HSd : Hid (∀ j u, (cnL c)[j]? = some u → w5.cell? ((⟨g, 0, none⟩ : Addr).add j) = some u) := cells_of (l := cnL c) H6.out.2.2
          go_wp2_with (first
            | (refine step_ldat 25 _ rfl rfl ⟨g, 0, none⟩ (by rfl) (cnL c) _ Try.underlying25 rfl (by kernel_rfl) HSd.out ?_)
            | (refine step_bsL (by rfl) 22 25 _ rfl (.agg (cnL c).toArray) (cnL c) (by rfl) (run_bsC c) ?_; intro w6 g6 H7)
            | (at_builtin; refine step_apL tiC rfl _ _ rfl w2.heap.size g6 v6 (cnL c) (by rfl) (by rfl) rfl (cnL_one c) w5 _ ?_ ?_ H6.out.1 H7.out H6.out.2.1.size ?_; (have := HLn.out; simp only [maxLen]; omega); (have := HLn.out; omega); intro v7 w7 H8))
          go_roundw
          case rel =>
            refine ⟨k + 1, by go_num, by omega, ?_, H6.out.2.1.trans H8.out.2⟩
            rw [HT2.out, List.map_append]
            exact H8.out.1
          case measure => simp [intOf]; omega
        · have HT2 : Hid ((T.take (k + 1)).filter (svB A B) = (T.take k).filter (svB A B)) := by
            have := HK.out
            rw [HX.out, if_neg (by simp; omega), List.append_nil] at this
            exact this
          by_cases hx1 : A ≤ P
          · have hx2 : ¬ P ≤ B := fun e => hx ⟨hx1, e⟩
            clear hx
            go_wp2_with fail
            go_roundw
            case rel =>
              refine ⟨k + 1, by go_num, by omega, ?_, H6.out.2.1⟩
              rw [HT2.out]; exact H6.out.1
            case measure => simp [intOf]; omega
          · clear hx
            go_wp2_with fail
            go_roundw
            case rel =>
              refine ⟨k + 1, by go_num, by omega, ?_, H6.out.2.1⟩
              rw [HT2.out]; exact H6.out.1
            case measure => simp [intOf]; omega
      · have HE : Hid (T.take k = T) := List.take_of_length_le (by rw [HM.out]; omega)
        go_wp2_with fail
        rw [hQ.out]
        go_ret
        have h1 := HB.out.1
        rw [HE.out, ← HS.out] at h1
        exact ⟨_, rfl, h1.mono HB2.out.size, below_thru HB2.out HB.out.2⟩
end Go.Proofs.Ytepbbaeamlimaab
