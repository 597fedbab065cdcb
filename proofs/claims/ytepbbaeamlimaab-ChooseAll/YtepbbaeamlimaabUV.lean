/- choose: the reference's Meet. -/
import Derived.Test.YtepbbaeamlimaabUU
import Derived.Test.YtepbbaeamlimaabUI
namespace Go.Proofs.Ytepbbaeamlimaab
open Go Go.RowKit Go.Sort Ch Pu
set_option linter.unusedVariables false
theorem ks_take {es : List Int} {i : Nat} {z : Int} (h : es[i]? = some z) : ks (es.take (i + 1)) = ks (es.take i) + kd z := by rw [take_snoc h, ks_append, ks_cons, ks_nil]; omega
theorem up_end (R h m : Int) (es : List Int) {i : Nat} (hi : es.length ≤ i) : upR R (es.drop i) h m = none := by rw [List.drop_eq_nil_of_le hi]; rfl
theorem dn_end (R h m : Int) (es : List Int) {i : Nat} (hi : es.length ≤ i) : dnR R (es.drop i) h m = none := by rw [List.drop_eq_nil_of_le hi]; rfl
theorem pts_up {es : List Int} {R X : Int} (h : upR R es 0 0 = none) : pts es R X = none := by unfold pts; rw [h]
theorem pts_dn {es : List Int} {R X a m : Int} (h : upR R es 0 0 = some (a, m)) (k : dnR R es.reverse 0 m = none) : pts es R X = none := by unfold pts; rw [h]; simp only; rw [k]
theorem pts_is {es : List Int} {R X a m b k : Int} (h : upR R es 0 0 = some (a, m)) (g : dnR R es.reverse 0 m = some (b, k)) : pts es R X = if k ≤ X ∧ a ≤ b then some (a, b) else none := by unfold pts; rw [h]; simp only; rw [g]
theorem plc_ok {z : Int} (h : okZ z) : -70368744177664 ≤ plc z ∧ plc z ≤ 70368744177664 := by unfold okZ at h; unfold plc; omega
theorem tup_none {es : List Int} {m k : Nat} (h : ∀ g, g < k → pts es ((m : Int) - (g : Int)) (g : Int) = none) (hk : pts es ((m : Int) - (k : Int)) (k : Int) = none) : ∀ g, g < k + 1 → pts es ((m : Int) - (g : Int)) (g : Int) = none := by
  intro g hg
  rcases Nat.lt_or_ge g k with h1 | h1
  · exact h g h1
  · have : g = k := by omega
    subst this
    exact hk
set_option maxRecDepth 20000 in
set_option maxHeartbeats 4000000 in
theorem rmeet_any (v : Value) (l : List Cn) (w : World) (N : Nat) (h : Rk N w 7 v (l.map cnL)) (hN : N ≤ w.heap.size) (hl : l.length ≤ 1000000) : Calls Try.prog 7 #[v] w fun e w' => e = .returned (.tuple #[.int .i64 (mA (mtL l)), .int .i64 (mB (mtL l)), .bool (mtL l).isSome]) ∧ Hid (Below w.heap.size w w') := by
  have HC : Hid (Calls Try.prog 11 #[v] w fun e w' => ∃ u, e = .returned u ∧ Hid (Sv2 w' w.heap.size u (E l)) ∧ Hid (Below w.heap.size w w')) := rall_any v l w N h hN hl
  have HT : Hid (∀ u, Below w.heap.size w u → Calls Try.prog 12 #[v] u fun e w' => ∃ x, e = .returned x ∧ Hid (OR w' u.heap.size 25 7 x ((th l).map cnL)) ∧ Hid (Below u.heap.size u w')) := fun u hu => those_any v l u N (h.below hu hN) (Nat.le_trans hN hu.size) hl
  obtain ⟨m, hm⟩ : ∃ m, (th l).length = m := ⟨_, rfl⟩
  have HL : Hid (((th l).map cnL).length = m) := by show _ = _; rw [List.length_map, hm]
  have HM : Hid (mtL l = mt (E l) m ∧ (E l).length = 3 * m ∧ ks (E l) = 0 ∧ (∀ z ∈ E l, okZ z) ∧ m ≤ 64) := ⟨by unfold mtL; rw [hm], by rw [E_len, hm], ks_E l, fun z hz => E_ok hz, by rw [← hm]; exact th_len l⟩
  have hm64 : (m : Int) ≤ 64 := by have := HM.out.2.2.2.2; omega
  clear h hN hl hm
  obtain ⟨es, hes⟩ : ∃ es, E l = es := ⟨_, rfl⟩
  rw [hes] at HC HM
  clear hes
  obtain ⟨rows, hrows⟩ : ∃ rows, (th l).map cnL = rows := ⟨_, rfl⟩
  rw [hrows] at HT HL
  clear hrows
  obtain ⟨o, ho⟩ : ∃ o, mtL l = o := ⟨_, rfl⟩
  rw [ho] at HM ⊢
  clear ho
  go_enter Try.func7, Try.ntmps7
  refine post_hid fun Q hQ => ?_
  go_upto_region 2 with (go_at_call 11; refine HC.out.mono ?_; rintro e w1 ⟨u1, rfl, H1, H2⟩)
  have HT2 : Hid (Calls Try.prog 12 #[v] w1 fun e w' => ∃ x, e = .returned x ∧ Hid (OR w' w1.heap.size 25 7 x rows) ∧ Hid (Below w1.heap.size w1 w')) := HT.out w1 H2.out
  clear HT HC
  go_wp2_with (go_at_call 12; refine HT2.out.mono ?_; rintro e w2 ⟨u2, rfl, H3, H4⟩; obtain ⟨ao2, cap2, hu2⟩ := or_len H3.out; rw [HL.out] at hu2; subst hu2)
  obtain ⟨n3, hn3⟩ : ∃ n3 : Nat, n3 = 3 * m := ⟨_, rfl⟩
  have HN : Hid (es.length = n3) := by show _ = _; rw [hn3]; exact HM.out.2.1
  have hn3i : (n3 : Int) = 3 * (m : Int) := by omega
  obtain ⟨ao, cap, hu1⟩ : ∃ ao cap, u1 = .slice ao n3 cap := by
    obtain ⟨ao, cap, e, _⟩ := H1.out.ex
    rw [HN.out] at e
    exact ⟨ao, cap, e⟩
  subst hu1
  have HR : Hid (∀ u, Below w2.heap.size w2 u → ∀ (i : Nat) z, es[i]? = some z → ∃ ad : Addr, (∀ x, Sem.run Try.prog (Instr.indexAt 36 (.slice ao n3 cap) (.int .i64 (i : Int))) x = .ok (.pointer (some ad)) x) ∧ u.cell? ad = some (.int .i64 (plc z)) ∧ u.cell? ⟨ad.block, ad.off + 1, none⟩ = some (.int .i64 (kd z))) := fun u hu i z hz => by
    have hi : i < es.length := by
      rcases Nat.lt_or_ge i es.length with h | h
      · exact h
      · rw [List.getElem?_eq_none h] at hz; cases hz
    have h5 : Sv2 u w.heap.size (.slice ao n3 cap) es := (H1.out.below H4.out (Nat.le_refl _)).below hu (Nat.le_refl _)
    obtain ⟨ad, k1, k2, k3⟩ := h5.at i hi
    have hzd : es.getD i 0 = z := by rw [List.getD_eq_getElem?_getD, hz]; rfl
    rw [hzd] at k3
    exact ⟨ad, k1, k3 0 _ rfl, k3 1 _ rfl⟩
  have HW : Hid (Below w.heap.size w w2) := below_thru H2.out H4.out
  clear H1 H2 H3 H4 HT2 hn3
  go_loopw [7] (fun x7 wr => ∃ (k : Nat), x7 = .int .i64 k ∧ 2 * (k : Int) ≤ m + 1 ∧ Hid ((∀ g, g < k → pts es ((m : Int) - (g : Int)) (g : Int) = none) ∧ Below w2.heap.size w2 wr)) (fun x7 _ => m + 1 - (intOf x7).toNat)
  case atStart => exact ⟨0, rfl, by omega, ⟨fun g hg => by omega, Below.refl _ _⟩⟩
  case round =>
    obtain ⟨k, rfl, hk, HI⟩ := hrel
    obtain ⟨wa, hwa⟩ : ∃ wa, wa = wr := ⟨_, rfl⟩
    subst hwa
    by_cases hlt : 2 * (k : Int) < m
    · go_wp2_with fail
      go_loopw [8, 9, 10, 11] (fun x8 x9 x10 x11 wi => ∃ (i : Nat) (mid low cnt : Int), x8 = .int .i64 mid ∧ x9 = .int .i64 low ∧ x10 = .int .i64 cnt ∧ x11 = .int .i64 i ∧ wi = wa ∧ (i : Int) ≤ n3 ∧ 0 ≤ mid ∧ mid ≤ i ∧ -(i : Int) ≤ cnt ∧ cnt ≤ i ∧ Hid (ks (es.take i) = -cnt) ∧ ((low = -1 ∧ cnt < (m : Int) - k ∧ Hid (upR ((m : Int) - k) es 0 0 = upR ((m : Int) - k) (es.drop i) cnt mid)) ∨ (∃ (p : Nat) (z : Int), low = p ∧ i = p + 1 ∧ (i : Int) < n3 ∧ Hid (es[p]? = some z ∧ upR ((m : Int) - k) es 0 0 = some (plc z, mid))))) (fun _ _ _ x11 _ => n3 - (intOf x11).toNat)
      case atStart => exact ⟨0, 0, -1, 0, rfl, rfl, rfl, rfl, rfl, by omega, by omega, by omega, by omega, by omega, by rw [List.take_zero]; rfl, Or.inl ⟨rfl, by omega, rfl⟩⟩
      case round =>
        obtain ⟨i, mid, low, cnt, rfl, rfl, rfl, rfl, hwi, hi, hm0, hm1, hc0, hc1, HK, hcase⟩ := hrel
        subst hwi
        rcases hcase with ⟨rfl, hcr, HU⟩ | ⟨p, zp, rfl, hip, hin, HU⟩
        · by_cases hil : (i : Int) < n3
          · have hie : i < es.length := by rw [HN.out]; omega
            obtain ⟨z, hz⟩ : ∃ z, es[i]? = some z := ⟨_, List.getElem?_eq_getElem hie⟩
            obtain ⟨ad, hix, _, c1⟩ := HR.out wr HI.out.2 i z hz
            have HK2 : Hid (ks (es.take (i + 1)) = -cnt + kd z) := by show _ = _; rw [ks_take hz, HK.out]
            have HU2 : Hid (upR ((m : Int) - k) es 0 0 = if cnt - kd z = (m : Int) - k then some (plc z, mid) else upR ((m : Int) - k) (es.drop (i + 1)) (cnt - kd z) (if kd z = 0 then mid + 1 else mid)) := by show _ = _; rw [HU.out, up_at hz]
            have HZ : Hid (es[i]? = some z ∧ es.take (i + 1) = es.take i ++ [z]) := ⟨hz, take_snoc hz⟩
            have hkb := kd_bd z
            obtain ⟨P, hP⟩ : ∃ P, plc z = P := ⟨_, rfl⟩
            have HP : Hid (plc z = P) := hP
            obtain ⟨K, hK⟩ : ∃ K, kd z = K := ⟨_, rfl⟩
            rw [hK] at c1 HK2 HU2 hkb
            clear hP hK hie hz HK HU
            rcases hkb with rfl | rfl | rfl
            · by_cases hit : cnt + 1 = (m : Int) - k
              · have e1 : (cnt + 1 == (m : Int) - k) = true := by simpa using hit
                have HF : Hid ((i : Int) + 1 < n3 ∧ upR ((m : Int) - k) es 0 0 = some (plc z, mid)) := by
                  refine ⟨?_, ?_⟩
                  · rcases (show (i : Int) + 1 < n3 ∨ (i : Int) + 1 = n3 by omega) with h | h
                    · exact h
                    · exfalso
                      have h1 := HK2.out
                      rw [List.take_of_length_le (by rw [HN.out]; omega), HM.out.2.2.1] at h1
                      omega
                  · rw [HU2.out, if_pos (by omega)]
                go_wp2_with fail
                go_roundw
                case rel => exact ⟨i + 1, mid, i, cnt + 1, rfl, rfl, by go_num, by go_num, by first | rfl | trivial, by omega, by omega, by omega, by omega, by omega, by show _ = _; rw [HK2.out]; omega, Or.inr ⟨i, z, rfl, rfl, by have := HF.out.1; omega, ⟨HZ.out.1, HF.out.2⟩⟩⟩
                case measure => (simp [intOf]; try omega)
              · have e1 : (cnt + 1 == (m : Int) - k) = false := by simpa using hit
                have HF : Hid (upR ((m : Int) - k) es 0 0 = upR ((m : Int) - k) (es.drop (i + 1)) (cnt + 1) mid) := by show _ = _; rw [HU2.out, if_neg (by omega), if_neg (by omega)]; rfl
                go_wp2_with fail
                go_roundw
                case rel => exact ⟨i + 1, mid, -1, cnt + 1, rfl, rfl, by go_num, by go_num, by first | rfl | trivial, by omega, by omega, by omega, by omega, by omega, by show _ = _; rw [HK2.out]; omega, Or.inl ⟨rfl, by omega, HF.out⟩⟩
                case measure => (simp [intOf]; try omega)
            · have e1 : (cnt == (m : Int) - k) = false := by simp; omega
              have HF : Hid (upR ((m : Int) - k) es 0 0 = upR ((m : Int) - k) (es.drop (i + 1)) cnt (mid + 1)) := by show _ = _; rw [HU2.out, if_neg (by omega), if_pos rfl]; simp
              go_wp2_with fail
              go_roundw
              case rel => exact ⟨i + 1, mid + 1, -1, cnt, by go_num, rfl, by go_num, by go_num, by first | rfl | trivial, by omega, by omega, by omega, by omega, by omega, by show _ = _; rw [HK2.out]; omega, Or.inl ⟨rfl, by omega, HF.out⟩⟩
              case measure => (simp [intOf]; try omega)
            · have e1 : (cnt - 1 == (m : Int) - k) = false := by simp; omega
              have HF : Hid (upR ((m : Int) - k) es 0 0 = upR ((m : Int) - k) (es.drop (i + 1)) (cnt - 1) mid) := by show _ = _; rw [HU2.out, if_neg (by omega), if_neg (by omega)]
              go_wp2_with fail
              go_roundw
              case rel => exact ⟨i + 1, mid, -1, cnt - 1, rfl, rfl, by go_num, by go_num, by first | rfl | trivial, by omega, by omega, by omega, by omega, by omega, by show _ = _; rw [HK2.out]; omega, Or.inl ⟨rfl, by omega, HF.out⟩⟩
              case measure => (simp [intOf]; try omega)
          · have HF : Hid (pts es ((m : Int) - k) k = none) := pts_up (by rw [HU.out]; exact up_end _ _ _ _ (by rw [HN.out]; omega))
            go_wp2_with fail
            go_roundw
            case rel => exact ⟨k + 1, by go_num, by omega, ⟨tup_none HI.out.1 HF.out, HI.out.2⟩⟩
            case measure => (simp [intOf]; try omega)
        · subst hip
          clear HK hc0 hc1
          go_wp2_with fail
          go_loopw [8, 10, 12, 13] (fun x8 x10 x12 x13 wi => ∃ (q : Nat) (md high cnt T : Int), x8 = .int .i64 md ∧ x10 = .int .i64 cnt ∧ x12 = .int .i64 high ∧ x13 = .int .i64 T ∧ wi = wr ∧ T + 1 + q = n3 ∧ -1 ≤ T ∧ 0 ≤ md ∧ md ≤ mid + q ∧ -(q : Int) ≤ cnt ∧ cnt ≤ q ∧ Hid (ks (es.reverse.take q) = cnt) ∧ ((high = -1 ∧ cnt < (m : Int) - k ∧ Hid (dnR ((m : Int) - k) es.reverse 0 mid = dnR ((m : Int) - k) (es.reverse.drop q) cnt md)) ∨ (∃ (s : Nat) (z : Int), high = s ∧ T + 1 = s ∧ 0 ≤ T ∧ Hid (es[s]? = some z ∧ dnR ((m : Int) - k) es.reverse 0 mid = some (plc z, md))))) (fun _ _ _ x13 _ => (intOf x13 + 1).toNat)
          case atStart => exact ⟨0, mid, -1, 0, (n3 : Int) - 1, rfl, rfl, rfl, (by congr 1; omega), rfl, by omega, by omega, by omega, by omega, by omega, by omega, by rw [List.take_zero]; rfl, Or.inl ⟨rfl, by omega, rfl⟩⟩
          case round =>
            obtain ⟨q, md, high, cnt, T, rfl, rfl, rfl, rfl, hwi, hT, hT1, hd0, hd1, hc0, hc1, HK, hcase⟩ := hrel
            subst hwi
            rcases hcase with ⟨rfl, hcr, HD⟩ | ⟨s, zs, rfl, hTs, hT0, HD⟩
            · by_cases hil : 0 ≤ T
              · obtain ⟨s, hs⟩ : ∃ s : Nat, T = s := ⟨T.toNat, by omega⟩
                subst hs
                have hie : s < es.length := by rw [HN.out]; omega
                obtain ⟨z, hz⟩ : ∃ z, es[s]? = some z := ⟨_, List.getElem?_eq_getElem hie⟩
                have hzr : es.reverse[q]? = some z := by
                  rw [List.getElem?_reverse (by rw [HN.out]; omega), HN.out]
                  have e : n3 - 1 - q = s := by omega
                  rw [e]; exact hz
                obtain ⟨ad, hix, _, c1⟩ := HR.out wr HI.out.2 s z hz
                have HK2 : Hid (ks (es.reverse.take (q + 1)) = cnt + kd z) := by show _ = _; rw [ks_take hzr, HK.out]
                have HD2 : Hid (dnR ((m : Int) - k) es.reverse 0 mid = if cnt + kd z = (m : Int) - k then some (plc z, md) else dnR ((m : Int) - k) (es.reverse.drop (q + 1)) (cnt + kd z) (if kd z = 0 then md + 1 else md)) := by show _ = _; rw [HD.out, dn_at hzr]
                have HZ : Hid (es[s]? = some z) := hz
                have hkb := kd_bd z
                obtain ⟨P, hP⟩ : ∃ P, plc z = P := ⟨_, rfl⟩
                obtain ⟨K, hK⟩ : ∃ K, kd z = K := ⟨_, rfl⟩
                rw [hK] at c1 HK2 HD2 hkb
                clear hP hK hie hz hzr HK HD
                rcases hkb with rfl | rfl | rfl
                · have e1 : (cnt + -1 == (m : Int) - k) = false := by simp; omega
                  have e2 : (cnt - 1 == (m : Int) - k) = false := by simp; omega
                  have HF : Hid (dnR ((m : Int) - k) es.reverse 0 mid = dnR ((m : Int) - k) (es.reverse.drop (q + 1)) (cnt + -1) md) := by show _ = _; rw [HD2.out, if_neg (by omega), if_neg (by omega)]
                  go_wp2_with fail
                  go_roundw
                  case rel => exact ⟨q + 1, md, -1, cnt + -1, s - 1, rfl, by go_num, rfl, by go_num, by first | rfl | trivial, by omega, by omega, by omega, by omega, by omega, by omega, HK2.out, Or.inl ⟨rfl, by omega, HF.out⟩⟩
                  case measure => (simp [intOf]; try omega)
                · have e1 : (cnt == (m : Int) - k) = false := by simp; omega
                  have HF : Hid (dnR ((m : Int) - k) es.reverse 0 mid = dnR ((m : Int) - k) (es.reverse.drop (q + 1)) cnt (md + 1)) := by show _ = _; rw [HD2.out, if_neg (by omega), if_pos rfl]; simp
                  go_wp2_with fail
                  go_roundw
                  case rel => exact ⟨q + 1, md + 1, -1, cnt, s - 1, by go_num, by go_num, rfl, by go_num, by first | rfl | trivial, by omega, by omega, by omega, by omega, by omega, by omega, by show _ = _; rw [HK2.out]; omega, Or.inl ⟨rfl, by omega, HF.out⟩⟩
                  case measure => (simp [intOf]; try omega)
                · by_cases hit : cnt + 1 = (m : Int) - k
                  · have e1 : (cnt + 1 == (m : Int) - k) = true := by simpa using hit
                    have HF : Hid ((1 : Int) ≤ s ∧ dnR ((m : Int) - k) es.reverse 0 mid = some (plc z, md)) := by
                      refine ⟨?_, ?_⟩
                      · rcases (show (1 : Int) ≤ s ∨ s = 0 by omega) with h | h
                        · exact h
                        · exfalso
                          have h1 := HK2.out
                          rw [List.take_of_length_le (by rw [List.length_reverse, HN.out]; omega), ks_rev, HM.out.2.2.1] at h1
                          omega
                      · rw [HD2.out, if_pos (by omega)]
                    have hs1 := HF.out.1
                    go_wp2_with fail
                    go_roundw
                    case rel => exact ⟨q + 1, md, s, cnt + 1, s - 1, rfl, by go_num, rfl, by go_num, by first | rfl | trivial, by omega, by omega, by omega, by omega, by omega, by omega, HK2.out, Or.inr ⟨s, z, rfl, by omega, by omega, ⟨HZ.out, HF.out.2⟩⟩⟩
                    case measure => (simp [intOf]; try omega)
                  · have e1 : (cnt + 1 == (m : Int) - k) = false := by simpa using hit
                    have HF : Hid (dnR ((m : Int) - k) es.reverse 0 mid = dnR ((m : Int) - k) (es.reverse.drop (q + 1)) (cnt + 1) md) := by show _ = _; rw [HD2.out, if_neg (by omega), if_neg (by omega)]
                    go_wp2_with fail
                    go_roundw
                    case rel => exact ⟨q + 1, md, -1, cnt + 1, s - 1, rfl, by go_num, rfl, by go_num, by first | rfl | trivial, by omega, by omega, by omega, by omega, by omega, by omega, HK2.out, Or.inl ⟨rfl, by omega, HF.out⟩⟩
                    case measure => (simp [intOf]; try omega)
              · have HF : Hid (pts es ((m : Int) - k) k = none) := pts_dn HU.out.2 (by rw [HD.out]; exact dn_end _ _ _ _ (by rw [List.length_reverse, HN.out]; omega))
                go_upto_region 28 with (fail)
                go_quiet (fail)
                go_wp2_with fail
                go_roundw
                case rel => exact ⟨k + 1, by go_num, by omega, ⟨tup_none HI.out.1 HF.out, below_dr HI.out.2 _⟩⟩
                case measure => (simp [intOf]; try omega)
            · obtain ⟨ad, hix, c0, _⟩ := HR.out wr HI.out.2 p zp HU.out.1
              obtain ⟨bd, hjx, d0, _⟩ := HR.out wr HI.out.2 s zs HD.out.1
              have hPb := plc_ok (HM.out.2.2.2.1 zp (List.mem_of_getElem? HU.out.1))
              have hSb := plc_ok (HM.out.2.2.2.1 zs (List.mem_of_getElem? HD.out.1))
              have HP : Hid (pts es ((m : Int) - k) k = if md ≤ k ∧ plc zp ≤ plc zs then some (plc zp, plc zs) else none) := pts_is HU.out.2 HD.out.2
              obtain ⟨P, hP⟩ : ∃ P, plc zp = P := ⟨_, rfl⟩
              obtain ⟨S, hS⟩ : ∃ S, plc zs = S := ⟨_, rfl⟩
              rw [hP] at c0 hPb HP
              rw [hS] at d0 hSb HP
              clear hP hS HU HD HK hc0 hc1
              by_cases hx : md ≤ k
              · by_cases hps : P ≤ S
                · have HO : Hid (o = some (P, S)) := HM.out.1.trans (mt_at (by omega) HI.out.1 (by rw [HP.out, if_pos ⟨hx, hps⟩]))
                  obtain ⟨P6, hP6⟩ : ∃ X, P * 65536 = X := ⟨_, rfl⟩
                  obtain ⟨S6, hS6⟩ : ∃ X, S * 65536 = X := ⟨_, rfl⟩
                  have hw1 : IntKind.i64.wrap (P * 65536) = P6 := by rw [IntKind.wrap_i64]; omega
                  have hw2 : IntKind.i64.wrap (S * 65536) = S6 := by rw [IntKind.wrap_i64]; omega
                  have H6 : Hid (P * 65536 = P6 ∧ S * 65536 = S6) := ⟨hP6, hS6⟩
                  clear hP6 hS6 HM HR
                  go_upto_region 28 with (fail)
                  go_quiet (fail)
                  obtain ⟨U, hU⟩ : ∃ U, U = wr.drewN nq := ⟨_, rfl⟩
                  rw [← hU]
                  have g0 : U.cell? ad = some (.int .i64 P) := by rw [hU]; exact c0
                  have g1 : U.cell? bd = some (.int .i64 S) := by rw [hU]; exact d0
                  have HB : Hid (Below w2.heap.size w2 U) := (by show Below _ _ _; rw [hU]; exact below_dr HI.out.2 _)
                  clear hU c0 d0
                  go_upto_region 29 with (fail)
                  go_quiet (fail)
                  go_wp2_with fail
                  rw [hQ.out]
                  go_ret3
                  refine ⟨?_, below_thru HW.out (below_dr HB.out _)⟩
                  rw [HO.out]
                  exact ret3i H6.out.1.symm H6.out.2.symm rfl
                · have HF : Hid (pts es ((m : Int) - k) k = none) := by show _ = _; rw [HP.out, if_neg (fun e => hps e.2)]
                  go_upto_region 28 with (fail)
                  go_quiet (fail)
                  go_wp2_with fail
                  go_roundw
                  case rel => exact ⟨k + 1, by go_num, by omega, ⟨tup_none HI.out.1 HF.out, below_dr HI.out.2 _⟩⟩
                  case measure => (simp [intOf]; try omega)
              · have HF : Hid (pts es ((m : Int) - k) k = none) := by show _ = _; rw [HP.out, if_neg (fun e => hx e.1)]
                go_upto_region 28 with (fail)
                go_quiet (fail)
                go_wp2_with fail
                go_roundw
                case rel => exact ⟨k + 1, by go_num, by omega, ⟨tup_none HI.out.1 HF.out, below_dr HI.out.2 _⟩⟩
                case measure => (simp [intOf]; try omega)
    · have HO : Hid (o = none) := HM.out.1.trans (mt_none (f := k) (by omega) HI.out.1)
      go_wp2_with fail
      rw [hQ.out]
      go_ret3
      refine ⟨?_, below_thru HW.out HI.out.2⟩
      rw [HO.out]
      exact ret3i rfl rfl rfl
end Go.Proofs.Ytepbbaeamlimaab
