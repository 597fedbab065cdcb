/- PulseWild, walked. -/
import Derived.Test.YtogloknoaeackaaPT
namespace Go.Proofs.Ytogloknoaeackaa
open Go.RowKit
theorem tmod_bd (y n : Int) (hn : 0 < n) : -n < y.tmod n ∧ y.tmod n < n := by
  have h : (y.tmod n).natAbs < n.natAbs := by rw [Int.natAbs_tmod]; exact Nat.mod_lt _ (by omega)
  omega
set_option maxRecDepth 20000 in
set_option maxHeartbeats 4000000 in
theorem wild_in (tv wv pv : Value) (ts ws ps : List Int) (w : World) (hT : Sl w.heap.size w tv ts) (hW : Sl w.heap.size w wv ws) (hP : Sl w.heap.size w pv ps) (h0 : 0 < ts.length) (h1 : ts.length + ws.length ≤ 64) (h2 : ws.length ≤ (ts.length + ws.length) / 4) (hp : ps.length ≤ 17592186044416)
    (ht : ∀ u, (Builtin.len_ #[28] 3 #[tv]).run Try.prog u = .ok (.int .i64 (ts.length : Int)) u) (hw : ∀ u, (Builtin.len_ #[28] 3 #[wv]).run Try.prog u = .ok (.int .i64 (ws.length : Int)) u) (hpl : ∀ u, (Builtin.len_ #[32] 3 #[pv]).run Try.prog u = .ok (.int .i64 (ps.length : Int)) u) :
    Calls Try.prog 5 #[tv, wv, pv] w fun e w' => e = .returned (.bool true) ∧ Below w.heap.size w w' := by
  have HH : Hid (Sl w.heap.size w tv ts ∧ Sl w.heap.size w wv ws ∧ Sl w.heap.size w pv ps ∧ 0 < ts.length ∧ ts.length + ws.length ≤ 64 ∧ ws.length ≤ (ts.length + ws.length) / 4) := ⟨hT, hW, hP, h0, h1, h2⟩
  obtain ⟨tl, htl⟩ : ∃ tl : Int, tl = (ts.length : Int) := ⟨_, rfl⟩
  obtain ⟨wl, hwl⟩ : ∃ wl : Int, wl = (ws.length : Int) := ⟨_, rfl⟩
  obtain ⟨pn, hpn⟩ : ∃ pn : Int, pn = (ps.length : Int) := ⟨_, rfl⟩
  rw [← htl] at ht
  rw [← hwl] at hw
  rw [← hpn] at hpl
  have HL : Hid (tl = (ts.length : Int) ∧ wl = (ws.length : Int) ∧ pn = (ps.length : Int)) := ⟨htl, hwl, hpn⟩
  have t0 : 0 < tl := by omega
  have w0 : 0 ≤ wl := by omega
  have tw : tl + wl ≤ 64 := by omega
  have tq : wl ≤ (tl + wl) / 4 := by omega
  have p0 : 0 ≤ pn := by omega
  have p1 : pn ≤ 17592186044416 := by omega
  have tne : (tl == 0) = false := by simp; omega
  have td1 : decide (64 < tl + wl) = false := by simp; omega
  have td2 : decide ((tl + wl) / 4 < wl) = false := by simp; omega
  clear htl hwl hpn hT hW hP h0 h1 h2 hp
  go_enter Try.func5, Try.ntmps5
  go_wp2_with fail
  refine (shown_any _).mono ?_
  rintro e w1 ⟨rfl, hB⟩
  have hS1 := HH.out.1.below hB (Nat.le_refl _)
  obtain ⟨v1, w2, hr1, hO1, _, hB1⟩ := run_appI w1 w1.heap.size w.heap.size (.slice none 0 0) tv [] ts (Oi.nil _ _) hS1 (by have := HH.out.2.2.2; simp; omega) (Nat.le_refl _)
  obtain ⟨v2, w3, hr2, hO2, _, hB2⟩ := run_appI w2 w1.heap.size w.heap.size v1 wv ([] ++ ts) ws hO1 ((HH.out.2.1.below hB (Nat.le_refl _)).below hB1 hB.size) (by have := HH.out.2.2.2; simp; omega) hB1.size
  have hB3 : Below w1.heap.size w1 w3 := hB1.trans hB2
  rw [List.nil_append] at hO2
  obtain ⟨g, cp, hv2, hg1, hg3, hR⟩ := hO2.rg (by have := HH.out.2.2.2; simp; omega)
  obtain ⟨n, hn⟩ : ∃ n, n = (ts ++ ws).length := ⟨_, rfl⟩
  rw [← hn] at hv2
  subst hv2
  have H3 : Hid (Rg w3 g (ts ++ ws) ∧ ok6 (ts ++ ws) ∧ w.heap.size ≤ g ∧ Below w.heap.size w w3 ∧ n = (ts ++ ws).length ∧ (ts ++ ws).length ≤ cp ∧ Sl w.heap.size w3 tv ts ∧ Sl w.heap.size w3 pv ps) :=
    ⟨hR, hO2.2, Nat.le_trans hB.size hg1, hB.trans (hB3.mono hB.size), hn, hg3, hS1.below hB3 hB.size, (HH.out.2.2.1.below hB (Nat.le_refl _)).below hB3 hB.size⟩
  have n0 : 0 < (n : Int) := by rw [hn, List.length_append]; have := HH.out.2.2.2; omega
  have n1 : (n : Int) ≤ 64 := by rw [hn, List.length_append]; have := HH.out.2.2.2; omega
  clear hB hS1 hO1 hB1 hO2 hB2 hB3 hg1 hg3 hR hn
  go_wp2_with (first | (at_builtin; refine wpList_appR rfl _ _ rfl rfl _ _ _ (by rfl) (by rfl) hr1 ?_) | (at_builtin; refine wpList_appR rfl _ _ rfl rfl _ _ _ (by rfl) (by rfl) hr2 ?_))
  clear hr1 hr2 tne td1 td2
  go_loop [8, 9, 48] (fun a b i => ∃ (k : Nat) (lo hi : Int), (k : Int) ≤ tl ∧ i = .int .i64 k ∧ a = .int .i64 lo ∧ b = .int .i64 hi ∧ -4294967296 ≤ lo ∧ lo ≤ 4294967296 ∧ -4294967296 ≤ hi ∧ hi ≤ 4294967296 ∧ Hid (∀ j, j < k → lo ≤ Fx.cl 4294967296 (ts.getD j 0) ∧ Fx.cl 4294967296 (ts.getD j 0) ≤ hi)) (fun _ _ i => tl.toNat - (intOf i).toNat)
  case atStart => exact ⟨0, 4294967296, -4294967296, by omega, rfl, rfl, rfl, by omega, by omega, by omega, by omega, fun j hj => absurd hj (Nat.not_lt_zero _)⟩
  case round =>
    obtain ⟨k, lo, hi, hk, rfl, rfl, rfl, l0, l1, i0, i1, HK⟩ := hrel
    by_cases hlt : (k : Int) < tl
    · have hkx : k < ts.length := by have := HL.out.1; omega
      obtain ⟨ad, cp', hvv, hcv⟩ := H3.out.2.2.2.2.2.2.1.at k hkx
      have hiv : ∀ u, (Instr.indexAt 28 tv (.int .i64 (k : Int))).run Try.prog u = .ok (.pointer (some (ad.add k))) u := fun u => by rw [hvv]; exact idx_at ad _ cp' k u hkx
      obtain ⟨z, hz⟩ : ∃ z, z = ts.getD k 0 := ⟨_, rfl⟩
      rw [← hz] at hcv
      obtain ⟨x, hx⟩ : ∃ x, x = Fx.cl 4294967296 z := ⟨_, rfl⟩
      have hmm : max (-4294967296) (min z 4294967296) = x := by rw [hx]; rfl
      have hxb := Fx.cl_bd (m := 4294967296) (by decide) z
      rw [← hx] at hxb
      obtain ⟨lo', hlo⟩ : ∃ l, min lo x = l := ⟨_, rfl⟩
      obtain ⟨hi', hhi⟩ : ∃ l, max hi x = l := ⟨_, rfl⟩
      have HX : Hid (x = Fx.cl 4294967296 (ts.getD k 0) ∧ lo' ≤ lo ∧ lo' ≤ x ∧ hi ≤ hi' ∧ x ≤ hi') := ⟨by rw [hx, hz], by omega, by omega, by omega, by omega⟩
      have b0 : -4294967296 ≤ lo' ∧ lo' ≤ 4294967296 ∧ -4294967296 ≤ hi' ∧ hi' ≤ 4294967296 := by omega
      clear hz hvv hx
      go_wp2_with fail
      refine ⟨⟨k + 1, lo', hi', by omega, by go_num, rfl, rfl, b0.1, b0.2.1, b0.2.2.1, b0.2.2.2, fun j hj => ?_⟩, by simp [intOf]; omega⟩
      rcases Nat.lt_or_ge j k with h | h
      · have := HK.out j h
        have := HX.out.2
        omega
      · rw [show j = k by omega, ← HX.out.1]
        have := HX.out.2
        omega
    · have hmid := Pu.wild_mid ts ws lo hi HH.out.2.2.2.2.1 HH.out.2.2.2.2.2 (fun x hx => by
        obtain ⟨j, hj, rfl⟩ := List.getElem_of_mem hx
        have := HK.out j (by have := HL.out.1; omega)
        rwa [List.getD_eq_getElem?_getD, List.getElem?_eq_getElem hj] at this)
      have hne : ts ++ ws ≠ [] := by
        have := HH.out.2.2.2.1
        intro e
        have e2 : (ts ++ ws).length = 0 := by rw [e]; rfl
        rw [List.length_append] at e2
        omega
      have hM := Pu.mean_bd (Pu.mid (ts ++ ws)) _ lo hi rfl (Pu.mid_pos hne).1 hmid
      have hW := Pu.mdW_le (ts ++ ws) lo hi hne hmid
      have hW0 := Pu.mdW_nonneg (ts ++ ws)
      obtain ⟨M, hMe⟩ : ∃ M, M = Pu.mdM (ts ++ ws) := ⟨_, rfl⟩
      obtain ⟨W, hWe⟩ : ∃ W, W = Pu.mdW (ts ++ ws) := ⟨_, rfl⟩
      have hM : lo ≤ M ∧ M ≤ hi := by rw [hMe]; exact hM
      rw [← hWe] at hW hW0
      have hmed : ∀ u ys, Below w.heap.size w u → Rg u g ys → ys.Perm (ts ++ ws) → Calls Try.prog 12 #[.slice (some ⟨g, 0, none⟩) n cp] u fun e w' => e = .returned (.tuple #[.int .i64 M, .int .i64 W]) ∧ Below u.heap.size u w' := fun u ys _ hR hp => by
        have hl : ys.length = n := by rw [hp.length_eq]; exact H3.out.2.2.2.2.1.symm
        have h64 : ys.length ≤ 64 := by omega
        have q := median_sl _ ys _ u (hR.sl cp (by rw [hp.length_eq]; exact H3.out.2.2.2.2.2.1) (ok6_perm H3.out.2.1 hp)) (Nat.le_refl _) (by omega)
        rw [hl, Pu.mdM_perm hp h64, Pu.mdW_perm hp h64, ← hMe, ← hWe] at q
        exact q
      have HMed : Hid _ := hmed
      clear hmed hMe hWe hne hmid
      go_wp2_with fail
      refine (HMed.out _ (ts ++ ws) H3.out.2.2.2.1 H3.out.1 (List.Perm.refl _)).mono ?_
      rintro e w4 ⟨rfl, hB4⟩
      have H4 : Hid (Rg w4 g (ts ++ ws) ∧ Below w.heap.size w w4 ∧ Sl w.heap.size w4 pv ps) := ⟨H3.out.1.below hB4 H3.out.1.lt, H3.out.2.2.2.1.trans (hB4.mono H3.out.2.2.2.1.size), H3.out.2.2.2.2.2.2.2.below hB4 H3.out.2.2.2.1.size⟩
      clear hB4
      go_wp2_with fail
      go_loopw [14, 15, 69] (fun _ _ i wr => ∃ (j : Nat) (ys : List Int), j ≤ n ∧ i = .int .i64 j ∧ Hid (Rg wr g ys ∧ ys.Perm (ts ++ ws) ∧ Below w.heap.size w wr ∧ Sl w.heap.size wr pv ps)) (fun _ _ i _ => n - (intOf i).toNat)
      case atStart => exact ⟨0, ts ++ ws, Nat.zero_le _, rfl, ⟨H4.out.1, List.Perm.refl _, H4.out.2.1, H4.out.2.2⟩⟩
      case round =>
        obtain ⟨j, ys, hj, rfl, HJ⟩ := hrel
        by_cases hjn : j < n
        · have jni : (j : Int) < n := by omega
          by_cases hjp : (j : Int) < pn
          · have hjx : j < ps.length := by have := HL.out.2.2; omega
            obtain ⟨ad, cp', hvv, hcv⟩ := HJ.out.2.2.2.at j hjx
            have hiv : ∀ u, (Instr.indexAt 32 pv (.int .i64 (j : Int))).run Try.prog u = .ok (.pointer (some (ad.add j))) u := fun u => by rw [hvv]; exact idx_at32 ad _ cp' j u hjx
            obtain ⟨y, hy⟩ : ∃ y, y = ps.getD j 0 := ⟨_, rfl⟩
            rw [← hy] at hcv
            obtain ⟨T, hT⟩ : ∃ T, y.tmod (n : Int) = T := ⟨_, rfl⟩
            have hTb := tmod_bd y (n : Int) n0
            rw [hT] at hTb
            obtain ⟨K, hK⟩ : ∃ K : Nat, (T + (n : Int)) % (n : Int) = (K : Int) := ⟨((T + (n : Int)) % (n : Int)).toNat, (Int.toNat_of_nonneg (Int.emod_nonneg _ (by omega))).symm⟩
            have hKn : (K : Int) < n := by rw [← hK]; exact Int.emod_lt_of_pos _ n0
            have hK2 : (T + (n : Int)).tmod (n : Int) = (K : Int) := by rw [Int.tmod_eq_emod_of_nonneg (by omega)]; exact hK
            have hyl : ys.length = n := by rw [HJ.out.2.1.length_eq]; exact H3.out.2.2.2.2.1.symm
            have cj := HJ.out.1.cell j (by omega)
            have cK := HJ.out.1.cell K (by omega)
            have cf := HJ.out.1.frozen
            obtain ⟨zj, hzj⟩ : ∃ z, z = ys.getD j 0 := ⟨_, rfl⟩
            obtain ⟨zK, hzK⟩ : ∃ z, z = ys.getD K 0 := ⟨_, rfl⟩
            rw [← hzj] at cj
            rw [← hzK] at cK
            have HZ : Hid (zj = ys.getD j 0 ∧ zK = ys.getD K 0 ∧ ys.length = n) := ⟨hzj, hzK, hyl⟩
            clear hy hvv hzj hzK hyl
            have nne : ¬ ((n : Int) = 0) := by omega
            by_cases hjK : j = K
            · subst hjK
              go_wp2_with fail
              go_region
              have hR5 : Rg ((wr.setCell ⟨g, j, none⟩ (.int .i64 zj)).setCell ⟨g, j, none⟩ (.int .i64 zj)).drew g ((ys.set j zj).set j zj) := (HJ.out.1.set j zj).set j zj
              have hB5 : Below w.heap.size w ((wr.setCell ⟨g, j, none⟩ (.int .i64 zj)).setCell ⟨g, j, none⟩ (.int .i64 zj)).drew := ((HJ.out.2.2.1.setCell H3.out.2.2.1 _).setCell H3.out.2.2.1 _).drew
              have hS5 : Sl w.heap.size ((wr.setCell ⟨g, j, none⟩ (.int .i64 zj)).setCell ⟨g, j, none⟩ (.int .i64 zj)).drew pv ps := HJ.out.2.2.2.below ((((Below.refl w.heap.size wr).setCell H3.out.2.2.1 _).setCell H3.out.2.2.1 _).drew) (Nat.le_refl _)
              generalize ((wr.setCell ⟨g, j, none⟩ (.int .i64 zj)).setCell ⟨g, j, none⟩ (.int .i64 zj)).drew = w5 at *
              have HJ5 : Hid (Rg w5 g ((ys.set j zj).set j zj) ∧ ((ys.set j zj).set j zj).Perm (ts ++ ws) ∧ Below w.heap.size w w5 ∧ Sl w.heap.size w5 pv ps) := ⟨hR5, by
                have hp := swap_perm ys j j (by rw [HZ.out.2.2]; exact hjn) (by rw [HZ.out.2.2]; omega)
                rw [← HZ.out.1] at hp
                exact hp.trans HJ.out.2.1, hB5, hS5⟩
              clear hR5 hB5 hS5
              go_wp2_with fail
              exact ⟨⟨j + 1, _, by omega, by go_num, HJ5⟩, by simp [intOf]; omega⟩
            · have hjK2 : ¬ (K = j) := fun e => hjK e.symm
              go_wp2_with fail
              go_region
              have hR5 : Rg ((wr.setCell ⟨g, j, none⟩ (.int .i64 zK)).setCell ⟨g, K, none⟩ (.int .i64 zj)).drew g ((ys.set j zK).set K zj) := (HJ.out.1.set j zK).set K zj
              have hB5 : Below w.heap.size w ((wr.setCell ⟨g, j, none⟩ (.int .i64 zK)).setCell ⟨g, K, none⟩ (.int .i64 zj)).drew := ((HJ.out.2.2.1.setCell H3.out.2.2.1 _).setCell H3.out.2.2.1 _).drew
              have hS5 : Sl w.heap.size ((wr.setCell ⟨g, j, none⟩ (.int .i64 zK)).setCell ⟨g, K, none⟩ (.int .i64 zj)).drew pv ps := HJ.out.2.2.2.below ((((Below.refl w.heap.size wr).setCell H3.out.2.2.1 _).setCell H3.out.2.2.1 _).drew) (Nat.le_refl _)
              generalize ((wr.setCell ⟨g, j, none⟩ (.int .i64 zK)).setCell ⟨g, K, none⟩ (.int .i64 zj)).drew = w5 at *
              have HJ5 : Hid (Rg w5 g ((ys.set j zK).set K zj) ∧ ((ys.set j zK).set K zj).Perm (ts ++ ws) ∧ Below w.heap.size w w5 ∧ Sl w.heap.size w5 pv ps) := ⟨hR5, by
                have hp := swap_perm ys j K (by rw [HZ.out.2.2]; exact hjn) (by rw [HZ.out.2.2]; omega)
                rw [← HZ.out.1] at hp
                rw [← HZ.out.2.1] at hp
                exact hp.trans HJ.out.2.1, hB5, hS5⟩
              clear hR5 hB5 hS5
              go_wp2_with fail
              exact ⟨⟨j + 1, _, by omega, by go_num, HJ5⟩, by simp [intOf]; omega⟩
          · go_wp2_with fail
            exact ⟨⟨j + 1, ys, by omega, by go_num, HJ⟩, by simp [intOf]; omega⟩
        · obtain rfl : j = n := by omega
          go_wp2_with fail
          refine (HMed.out _ ys HJ.out.2.2.1 HJ.out.1 HJ.out.2.1).mono ?_
          rintro e w6 ⟨rfl, hB6⟩
          have d1 : decide (lo ≤ M) = true := decide_eq_true hM.1
          have d2 : decide (M ≤ hi) = true := decide_eq_true hM.2
          have d3 : decide (0 ≤ W) = true := decide_eq_true hW0
          have d4 : decide (W ≤ hi - lo) = true := decide_eq_true hW
          have H6 : Hid (Below w.heap.size w w6) := HJ.out.2.2.1.trans (hB6.mono HJ.out.2.2.1.size)
          clear hB6
          go_wp2_with fail
          go_ret
          exact ⟨rfl, H6.out⟩
theorem PulseWild_row (tv wv pv : Value) (ts ws ps : List Int) (w : World) (hT : Sl w.heap.size w tv ts) (t1 : ts.length * 8 ≤ 140737488351232) (hW : Sl w.heap.size w wv ws) (w1 : ws.length * 8 ≤ 140737488351232) (hP : Sl w.heap.size w pv ps) (p1 : ps.length * 8 ≤ 140737488351232) :
    Calls Try.prog 5 #[tv, wv, pv] w fun e w' => e = .returned (.bool true) ∧ Below w.heap.size w w' := by
  have ht : ∀ u, (Builtin.len_ #[28] 3 #[tv]).run Try.prog u = .ok (.int .i64 (ts.length : Int)) u := by
    obtain ⟨ao, cap, rfl, _⟩ := hT
    exact fun u => len_run ao _ cap u
  have hw : ∀ u, (Builtin.len_ #[28] 3 #[wv]).run Try.prog u = .ok (.int .i64 (ws.length : Int)) u := by
    obtain ⟨ao, cap, rfl, _⟩ := hW
    exact fun u => len_run ao _ cap u
  have hp : ∀ u, (Builtin.len_ #[32] 3 #[pv]).run Try.prog u = .ok (.int .i64 (ps.length : Int)) u := by
    obtain ⟨ao, cap, rfl, _⟩ := hP
    exact fun u => len_run32 ao _ cap u
  by_cases h : (ts.length : Int) = 0 ∨ 64 < (ts.length : Int) + ws.length ∨ ((ts.length : Int) + ws.length) / 4 < ws.length
  · exact wild_out tv wv pv ts.length ws.length w (by omega) (by omega) (by omega) (by omega) ht hw h
  · exact wild_in tv wv pv ts ws ps w hT hW hP (by omega) (by omega) (by omega) (by omega) ht hw hp
end Go.Proofs.Ytogloknoaeackaa
