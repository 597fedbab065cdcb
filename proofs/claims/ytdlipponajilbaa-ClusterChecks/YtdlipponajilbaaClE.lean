/- cluster: pieces of a row of candidates; the worst one, the quiet. -/
import Derived.Test.YtdlipponajilbaaClD
namespace Go.Proofs.Ytdlipponajilbaa
open Go Go.RowKit Go.Sort Go.Proofs
set_option linter.unusedVariables false
theorem rk_mid {N : Nat} {w : World} {ao : Option Addr} {cap n : Nat} {l : List Cn} (h : Rk N w 7 (.slice ao n cap) (l.map cnL)) (a b : Nat) (hab : a ≤ b) (hb : b ≤ l.length) :
    Rk N w 7 (.slice (if cap = a then ao else ao.map (fun p => p.add (a * 7))) (b - a) (cap - a)) (((l.drop a).take (b - a)).map cnL) := by
  obtain ⟨ao', cap', he, h1, h2⟩ := h
  injection he with he1 he2 he3
  subst he1; subst he3
  rw [List.length_map] at h1 h2
  have hlen : ((l.drop a).take (b - a)).length = b - a := by rw [List.length_take, List.length_drop]; omega
  refine ⟨_, _, by rw [List.length_map, hlen], by rw [List.length_map, hlen]; omega, fun i hi => ?_⟩
  rw [List.length_map, hlen] at hi
  obtain ⟨ad, k1, k2, k3⟩ := h2 (a + i) (by omega)
  subst k1
  rw [if_neg (by omega)]
  refine ⟨_, rfl, by rw [add_block]; exact k2, fun j u hu => ?_⟩
  rw [add_add, show a * 7 + (i * 7 + j) = (a + i) * 7 + j from by omega]
  refine k3 j u ?_
  rw [← hu]
  congr 1
  rw [List.getD_eq_getElem?_getD, List.getD_eq_getElem?_getD, List.getElem?_map, List.getElem?_map, List.getElem?_take_of_lt hi, List.getElem?_drop]
theorem rk_form {N : Nat} {w : World} {v : Value} {l : List Cn} (h : Rk N w 7 v (l.map cnL)) : ∃ ao cap, v = .slice ao l.length cap ∧ l.length ≤ cap := by
  obtain ⟨ao, cap, hv, hc, _⟩ := h
  rw [List.length_map] at hv hc
  exact ⟨ao, cap, hv, hc⟩
/-- v[a:b] -/
theorem csl_mid {N : Nat} {w : World} {ao : Option Addr} {cap n : Nat} {l : List Cn} (h : Rk N w 7 (.slice ao n cap) (l.map cnL)) (a b : Nat) (hab : a ≤ b) (hb : b ≤ l.length) :
    ∃ ao' cap', (∀ u, (Instr.slice 22 (.slice ao n cap) (some (.int .i64 (a : Int))) (some (.int .i64 (b : Int))) none).run Try.prog u = .ok (.slice ao' (b - a) cap') u) ∧ Rk N w 7 (.slice ao' (b - a) cap') (((l.drop a).take (b - a)).map cnL) ∧ (ao ≠ none → ao' ≠ none) ∧ (cap < maxLen + 1 → cap' ≤ maxLen) := by
  obtain ⟨ao0, cap0, e0, h0⟩ := rk_form h
  injection e0 with e1 e2 e3
  subst e1 e3
  refine ⟨_, _, fun u => ?_, rk_mid h a b hab hb, fun hne => ?_, fun hc => by omega⟩
  · have q1 : b ≤ cap := by omega
    simp [Instr.slice, Instr.sliceBounds, Instr.sliceBound, asIntOf, run_underlying Try.underlying22, q1, hab]
  · split
    · exact hne
    · cases ao with
      | none => exact absurd rfl hne
      | some p => simp
/-- v[:b] -/
theorem csl_take {N : Nat} {w : World} {ao : Option Addr} {cap n : Nat} {l : List Cn} (h : Rk N w 7 (.slice ao n cap) (l.map cnL)) (b : Nat) (hb : b ≤ l.length) :
    ∃ ao' cap', (∀ u, (Instr.slice 22 (.slice ao n cap) none (some (.int .i64 (b : Int))) none).run Try.prog u = .ok (.slice ao' b cap') u) ∧ Rk N w 7 (.slice ao' b cap') ((l.take b).map cnL) ∧ (ao ≠ none → ao' ≠ none) ∧ (cap < maxLen + 1 → cap' ≤ maxLen) := by
  obtain ⟨ao0, cap0, e0, h0⟩ := rk_form h
  injection e0 with e1 e2 e3
  subst e1 e3
  have hm := rk_mid h 0 b (Nat.zero_le _) hb
  rw [List.drop_zero, Nat.sub_zero] at hm
  refine ⟨_, _, fun u => ?_, hm, fun hne => ?_, fun hc => by omega⟩
  · have q1 : b ≤ cap := by omega
    simp [Instr.slice, Instr.sliceBounds, Instr.sliceBound, asIntOf, run_underlying Try.underlying22, q1]
  · split
    · exact hne
    · cases ao with
      | none => exact absurd rfl hne
      | some p => simp
/-- v[a:] -/
theorem csl_drop {N : Nat} {w : World} {ao : Option Addr} {cap n : Nat} {l : List Cn} (h : Rk N w 7 (.slice ao n cap) (l.map cnL)) (a : Nat) (ha : a ≤ l.length) :
    ∃ ao' cap', (∀ u, (Instr.slice 22 (.slice ao n cap) (some (.int .i64 (a : Int))) none none).run Try.prog u = .ok (.slice ao' (n - a) cap') u) ∧ Rk N w 7 (.slice ao' (n - a) cap') ((l.drop a).map cnL) ∧ (ao ≠ none → ao' ≠ none) ∧ (cap < maxLen + 1 → cap' ≤ maxLen) := by
  obtain ⟨ao0, cap0, e0, h0⟩ := rk_form h
  injection e0 with e1 e2 e3
  subst e1 e3
  have hm := rk_mid h a l.length ha (Nat.le_refl _)
  rw [List.take_of_length_le (by rw [List.length_drop]; omega)] at hm
  subst e2
  refine ⟨_, _, fun u => ?_, hm, fun hne => ?_, fun hc => by omega⟩
  · have q2 : a ≤ l.length := ha
    simp [Instr.slice, Instr.sliceBounds, Instr.sliceBound, asIntOf, run_underlying Try.underlying22, q2]
  · split
    · exact hne
    · cases ao with
      | none => exact absurd rfl hne
      | some p => simp
theorem add_zero' (a : Addr) : a.add 0 = a := by unfold Addr.add; rw [if_pos rfl]
theorem getD_at {l : List Cn} {k : Nat} {c : Cn} (h : l[k]? = some c) : l.getD k zCn = c := by rw [List.getD_eq_getElem?_getD, h]; rfl
theorem ret2i {a b c d : Int} (h1 : a = c) (h2 : b = d) : Ending.returned (.tuple #[.int .i64 a, .int .i64 b]) = .returned (.tuple #[.int .i64 c, .int .i64 d]) := by rw [h1, h2]
set_option maxRecDepth 20000 in
set_option maxHeartbeats 1000000 in
theorem worst_any (v : Value) (l : List Cn) (w : World) (N : Nat) (h : Rk N w 7 v (l.map cnL)) (hN : N ≤ w.heap.size) (hl : l.length ≤ 1000) (ok : ∀ c ∈ l, okC c) : Calls Try.prog 19 #[v] w fun e w' => e = .returned (.tuple #[.int .i64 (wst l l.length).1, .int .i64 (wst l l.length).2]) ∧ Below w.heap.size w w' := by
  have HSJ : Hid (∀ w1 (p : Nat), Below w.heap.size w w1 → p < l.length → Calls Try.prog 26 #[v, .int .i64 (p : Int)] w1 fun e w' => e = .returned (.int .i64 (sj l p)) ∧ Below w1.heap.size w1 w') := fun w1 p hb1 hp => selectJitter_any v l p w1 N (h.below hb1 hN) (Nat.le_trans hN hb1.size) hl hp ok
  obtain ⟨ao, cap, hv, hcap, hr⟩ := cands_read h
  have HR : Hid (∀ w', Below w.heap.size w w' → ∀ (i : Nat) c, l[i]? = some c → ∃ ad, ao = some ad ∧ ∀ j u, (cnL c)[j]? = some u → w'.cell? ((ad.add (i * 7)).add j) = some u) := fun w' hb i c hc => by
    obtain ⟨ad, h1, h3, h2⟩ := hr w' (below_cells hb hN) i c hc
    exact ⟨ad, h1, h2⟩
  obtain ⟨n, hn⟩ : ∃ n, l.length = n := ⟨_, rfl⟩
  have HN : Hid (l.length = n) := hn
  rw [hn] at hv hl HSJ ⊢
  subst hv
  have hl2 : (n : Int) ≤ 1000 := by omega
  clear h hr hn hcap hl hN ok
  go_enter Try.func19, Try.ntmps19
  refine post_hid fun Q hQ => ?_
  go_wp2_with fail
  go_loopw [4, 5, 6, 7, 8, 11] (fun v4 v5 _ _ _ i wr => ∃ (k : Nat), i = .int .i64 k ∧ (k : Int) ≤ n ∧ v4 = .int .i64 (wst l k).1 ∧ v5 = .int .i64 (wst l k).2 ∧ Hid (Below w.heap.size w wr)) (fun _ _ _ _ _ i _ => n - (intOf i).toNat)
  case atStart => exact ⟨0, rfl, by omega, rfl, rfl, Below.refl _ _⟩
  case round =>
    obtain ⟨k, rfl, hk, rfl, rfl, HB⟩ := hrel
    obtain ⟨P, hP⟩ : ∃ P, (wst l k).1 = P := ⟨_, rfl⟩
    obtain ⟨J, hJ⟩ : ∃ J, (wst l k).2 = J := ⟨_, rfl⟩
    have HW : Hid ((wst l k).1 = P ∧ (wst l k).2 = J) := ⟨hP, hJ⟩
    rw [hP, hJ]
    clear hP hJ
    by_cases hlt : (k : Int) < n
    · have hkl : k < l.length := by rw [HN.out]; omega
      obtain ⟨c, hc⟩ : ∃ c, l[k]? = some c := ⟨_, List.getElem?_eq_getElem hkl⟩
      obtain ⟨ad, g1, g3⟩ := HR.out wr HB.out k c hc
      have hix := ix_C n cap k g1 hlt
      have HS : Hid (∀ j u, (cnL c)[j]? = some u → wr.cell? ((ad.add (k * 7)).add j) = some u) := g3
      have HK : Hid (l[k]? = some c ∧ k < n) := ⟨hc, by omega⟩
      clear g1 g3 hc hkl
      go_upto_region 5 with (first
        | (refine step_ldat 27 _ rfl rfl (ad.add (k * 7)) (by rfl) (cnL c) _ Try.underlying27 rfl (by kernel_rfl) HS.out ?_)
        | (refine step_alL (by rfl) 27 rfl (cnL zCn).toArray (fun u => by kernel_rfl) ?_; intro w3 g H3)
        | (refine step_stL (by rfl) _ _ rfl g (cnL c).toArray (by rfl) (by rfl) (cnL zCn).toArray (by kernel_rfl) (by kernel_rfl) (by kernel_rfl) H3.out.bk ?_; intro w4 H4))
      have H5 : Hid (Below w.heap.size w w4 ∧ Bk g w4 (cnL c).toArray 27) := by
        have hb := H4.out.below H3.out.be H3.out.be.size (Nat.le_of_eq H3.out.at'.symm)
        exact ⟨below_thru HB.out hb, H4.out.bk⟩
      clear H3 H4 HS HB hix
      have q5 : w4.cell? ⟨g, 5, none⟩ = some (.bool c.pf) := H5.out.2.cell 5
      obtain ⟨pf, hpf⟩ : ∃ pf, c.pf = pf := ⟨_, rfl⟩
      have HPF : Hid (c.pf = pf) := hpf
      rw [hpf] at q5
      clear hpf
      cases pf
      · obtain ⟨Z, hZ⟩ : ∃ Z, sj l k = Z := ⟨_, rfl⟩
        have CJ : Hid (Calls Try.prog 26 #[.slice ao n cap, .int .i64 (k : Int)] w4 fun e w' => e = .returned (.int .i64 Z) ∧ Below w4.heap.size w4 w') := by rw [← hZ]; exact HSJ.out w4 k H5.out.1 HK.out.2
        have HZ : Hid (sj l k = Z) := hZ
        clear hZ
        by_cases hge : J ≤ Z
        · have HN2 : Hid ((wst l (k + 1)).1 = (k : Int) ∧ (wst l (k + 1)).2 = Z) := by
            have e : wst l (k + 1) = ((k : Int), sj l k) := by
              show (if (l.getD k zCn).pf = false ∧ (wst l k).2 ≤ sj l k then ((k : Int), sj l k) else wst l k) = _
              rw [if_pos ⟨by rw [getD_at HK.out.1]; exact HPF.out, by rw [HW.out.2, HZ.out]; exact hge⟩]
            rw [e, HZ.out]
            exact ⟨rfl, rfl⟩
          go_wp2_with (go_at_call 26; refine CJ.out.mono ?_; rintro e w5 ⟨rfl, hb5⟩; have H6 : Hid (Below w.heap.size w w5) := below_thru H5.out.1 hb5; clear hb5)
          go_roundw
          case rel => exact ⟨k + 1, by go_num, by omega, by rw [HN2.out.1], by rw [HN2.out.2], H6.out⟩
          case measure => simp [intOf]; omega
        · have HN2 : Hid ((wst l (k + 1)).1 = P ∧ (wst l (k + 1)).2 = J) := by
            have e : wst l (k + 1) = wst l k := by
              show (if (l.getD k zCn).pf = false ∧ (wst l k).2 ≤ sj l k then ((k : Int), sj l k) else wst l k) = _
              rw [if_neg (fun e => hge (by rw [← HW.out.2, ← HZ.out]; exact e.2))]
            rw [e]; exact HW.out
          go_wp2_with (go_at_call 26; refine CJ.out.mono ?_; rintro e w5 ⟨rfl, hb5⟩; have H6 : Hid (Below w.heap.size w w5) := below_thru H5.out.1 hb5; clear hb5)
          go_roundw
          case rel => exact ⟨k + 1, by go_num, by omega, by rw [HN2.out.1], by rw [HN2.out.2], H6.out⟩
          case measure => simp [intOf]; omega
      · have HN2 : Hid ((wst l (k + 1)).1 = P ∧ (wst l (k + 1)).2 = J) := by
          have e : wst l (k + 1) = wst l k := by
            show (if (l.getD k zCn).pf = false ∧ (wst l k).2 ≤ sj l k then ((k : Int), sj l k) else wst l k) = _
            rw [if_neg (fun e => by have := e.1; rw [getD_at HK.out.1, HPF.out] at this; cases this)]
          rw [e]; exact HW.out
        go_wp2_with fail
        go_roundw
        case rel => exact ⟨k + 1, by go_num, by omega, by rw [HN2.out.1], by rw [HN2.out.2], H5.out.1⟩
        case measure => simp [intOf]; omega
    · have hkn : k = n := by omega
      subst hkn
      go_wp2_with fail
      rw [hQ.out]
      go_ret2
      exact ⟨ret2i HW.out.1.symm HW.out.2.symm, HB.out⟩
set_option maxRecDepth 20000 in
set_option maxHeartbeats 1000000 in
theorem quiet_any (v : Value) (l : List Cn) (w : World) (N : Nat) (h : Rk N w 7 v (l.map cnL)) (hN : N ≤ w.heap.size) (hl : l.length ≤ 1000) (h0 : 0 < l.length) : Calls Try.prog 20 #[v] w fun e w' => e = .returned (.int .i64 (qut l l.length)) ∧ Below w.heap.size w w' := by
  obtain ⟨ao, cap, hv, hcap, hr⟩ := cands_read h
  rw [hv] at h
  obtain ⟨ao1, cap1, hrun, hk1, _, _⟩ := csl_drop h 1 (by omega)
  obtain ⟨ao2, cap2, hv2, hcap2, hr2⟩ := cands_read hk1
  injection hv2 with e1 e2 e3
  subst e1 e3
  have HR : Hid (∀ w', Below w.heap.size w w' → ∀ (i : Nat) c, (l.drop 1)[i]? = some c → ∃ ad, ao1 = some ad ∧ ∀ j u, (cnL c)[j]? = some u → w'.cell? ((ad.add (i * 7)).add j) = some u) := fun w' hb i c hc => by
    obtain ⟨ad, h1, h3, h2⟩ := hr2 w' (below_cells hb hN) i c hc
    exact ⟨ad, h1, h2⟩
  obtain ⟨c0, hc0⟩ : ∃ c, l[0]? = some c := ⟨_, List.getElem?_eq_getElem h0⟩
  obtain ⟨a0, g1, g2, g3⟩ := hr w (fun p _ => rfl) 0 c0 hc0
  have q3 : w.cell? ⟨a0.block, a0.off + 3, none⟩ = some (.int .i64 c0.j) := by
    have := g3 3 (.int .i64 c0.j) rfl
    rw [Nat.zero_mul, add_zero', fld1 _ _ (by decide)] at this
    exact this
  obtain ⟨n, hn⟩ : ∃ n, l.length = n := ⟨_, rfl⟩
  have HN : Hid (l.length = n ∧ l[0]? = some c0) := ⟨hn, hc0⟩
  have hix0 : ∀ u, Sem.run Try.prog (Instr.indexAt 22 (.slice ao n cap) (.int .i64 0)) u = .ok (.pointer (some a0)) u := fun u => by
    have := ix_C n cap 0 g1 (by omega) u
    rw [Nat.zero_mul, add_zero'] at this
    exact this
  rw [hn] at hv hl h0 hrun ⊢
  subst hv
  obtain ⟨m, hm⟩ : ∃ m, n - 1 = m := ⟨_, rfl⟩
  rw [hm] at hrun
  have hl2 : (m : Int) < 1000 := by omega
  have HM : Hid (n = m + 1) := by show _ = _; omega
  have hrun1 : ∀ u, (Instr.slice 22 (.slice ao n cap) (some (.int .i64 1)) none none).run Try.prog u = .ok (.slice ao1 m cap1) u := hrun
  clear h hr hn hcap hl hN h0 hrun hk1 hcap2 hr2 e2 g1 g2 g3 hc0 hm
  go_enter Try.func20, Try.ntmps20
  refine post_hid fun Q hQ => ?_
  go_wp2_with fail
  go_loopw [3, 5, 13] (fun v3 _ i wr => ∃ (k : Nat), i = .int .i64 k ∧ (k : Int) ≤ m ∧ v3 = .int .i64 (qut l (k + 1)) ∧ Hid (Below w.heap.size w wr)) (fun _ _ i _ => m - (intOf i).toNat)
  case atStart =>
    refine ⟨0, rfl, by omega, ?_, Below.refl _ _⟩
    have e : qut l 1 = c0.j := by
      show min (l.getD 0 zCn).j (l.getD 0 zCn).j = _
      rw [getD_at HN.out.2]; omega
    rw [e]
  case round =>
    obtain ⟨k, rfl, hk, rfl, HB⟩ := hrel
    obtain ⟨J, hJ⟩ : ∃ J, qut l (k + 1) = J := ⟨_, rfl⟩
    have HW : Hid (qut l (k + 1) = J) := hJ
    rw [hJ]
    clear hJ q3 hix0
    by_cases hlt : (k : Int) < m
    · have hkl : k < (l.drop 1).length := by rw [List.length_drop, HN.out.1, HM.out]; omega
      obtain ⟨c, hc⟩ : ∃ c, (l.drop 1)[k]? = some c := ⟨_, List.getElem?_eq_getElem hkl⟩
      obtain ⟨ad, g1, g3⟩ := HR.out wr HB.out k c hc
      have hix := ix_C m cap1 k g1 hlt
      have HS : Hid (∀ j u, (cnL c)[j]? = some u → wr.cell? ((ad.add (k * 7)).add j) = some u) := g3
      have HN2 : Hid (qut l (k + 1 + 1) = min J c.j) := by
        show min (qut l (k + 1)) (l.getD (k + 1) zCn).j = _
        rw [List.getElem?_drop] at hc
        rw [HW.out, getD_at (k := k + 1) (by rw [show k + 1 = 1 + k from by omega]; exact hc)]
      clear g1 g3 hc hkl
      go_upto_region 5 with (first
        | (refine step_ldat 27 _ rfl rfl (ad.add (k * 7)) (by rfl) (cnL c) _ Try.underlying27 rfl (by kernel_rfl) HS.out ?_)
        | (refine step_alL (by rfl) 27 rfl (cnL zCn).toArray (fun u => by kernel_rfl) ?_; intro w3 g H3)
        | (refine step_stL (by rfl) _ _ rfl g (cnL c).toArray (by rfl) (by rfl) (cnL zCn).toArray (by kernel_rfl) (by kernel_rfl) (by kernel_rfl) H3.out.bk ?_; intro w4 H4))
      have H5 : Hid (Below w.heap.size w w4) := by
        have hb := H4.out.below H3.out.be H3.out.be.size (Nat.le_of_eq H3.out.at'.symm)
        exact below_thru HB.out hb
      have q5 : w4.cell? ⟨g, 3, none⟩ = some (.int .i64 c.j) := H4.out.bk.cell 3
      clear H3 H4 HS HB hix
      go_wp2_with fail
      go_roundw
      case rel => exact ⟨k + 1, by go_num, by omega, by rw [HN2.out], H5.out⟩
      case measure => simp [intOf]; omega
    · have hkn : k = m := by omega
      subst hkn
      go_wp2_with fail
      rw [hQ.out]
      go_ret
      exact ⟨ret_i64 (by rw [HM.out]; exact HW.out.symm), HB.out⟩
end Go.Proofs.Ytdlipponajilbaa
