/- ChooseApart. -/
import Derived.Test.YtepbbaeamlimaaaUL
import Derived.Test.YtepbbaeamlimaaaUQ
namespace Go.Proofs.Ytepbbaeamlimaaa
open Go Go.RowKit Go.Sort Ch Pu
set_option linter.unusedVariables false
/-- where the k-th one stands, in units of 2^16 -/
def atZ (d : Int) (gs : List Int) (k : Nat) : Int := ((gs.take k).map fun g => g + 2 * d + 1).sum
theorem atZ_zero (d : Int) (gs : List Int) : atZ d gs 0 = 0 := rfl
theorem atZ_succ {d : Int} {gs : List Int} {k : Nat} {g : Int} (h : gs[k]? = some g) : atZ d gs (k + 1) = atZ d gs k + (g + 2 * d + 1) := by unfold atZ; rw [take_snoc h]; simp
theorem atZ_mono {d : Int} {gs : List Int} (hd : 0 ≤ d) (hg : ∀ g ∈ gs, ok16 g) {i : Nat} : ∀ j, i < j → j ≤ gs.length → atZ d gs i + 2 * d + 1 ≤ atZ d gs j
  | 0, h, _ => by omega
  | j + 1, h, hj => by
    have hjl : j < gs.length := by omega
    have e := atZ_succ (d := d) (List.getElem?_eq_getElem hjl)
    have h1 := hg _ (List.getElem_mem hjl)
    unfold ok16 at h1
    rcases Nat.lt_or_ge i j with h2 | h2
    · have := atZ_mono hd hg j h2 (by omega)
      omega
    · have : i = j := by omega
      subst this
      omega
theorem atZ_bd {d : Int} {gs : List Int} (hd : 0 ≤ d) (hd2 : d < 256) (hg : ∀ g ∈ gs, ok16 g) : ∀ k, k ≤ gs.length → 0 ≤ atZ d gs k ∧ atZ d gs k ≤ 67000 * k
  | 0, _ => by rw [atZ_zero]; simp
  | k + 1, hk => by
    have hkl : k < gs.length := by omega
    have e := atZ_succ (d := d) (List.getElem?_eq_getElem hkl)
    have h1 := hg _ (List.getElem_mem hkl)
    unfold ok16 at h1
    have := atZ_bd hd hd2 hg k (by omega)
    push_cast
    omega
/-- the candidates -/
def apC (d : Int) (gs : List Int) (i : Nat) : Cn := ⟨(i : Int), atZ d gs i * 65536, d * 65536, 0, 0, false, false⟩
def apL (d : Int) (gs : List Int) (k : Nat) : List Cn := (List.range k).map (apC d gs)
theorem apL_len (d : Int) (gs : List Int) (k : Nat) : (apL d gs k).length = k := by unfold apL; simp
theorem apL_succ (d : Int) (gs : List Int) (k : Nat) : apL d gs (k + 1) = apL d gs k ++ [apC d gs k] := by unfold apL; rw [List.range_succ, List.map_append]; rfl
theorem apC_ct {d : Int} {gs : List Int} (hd : 0 ≤ d) (hd2 : d < 256) (hg : ∀ g ∈ gs, ok16 g) {k : Nat} (hk : k ≤ gs.length) (h60 : gs.length ≤ 60) : ct (apC d gs k) = true := by
  rw [ct_iff]
  have := atZ_bd hd hd2 hg k hk
  simp only [apC]
  omega
theorem apL_ct {d : Int} {gs : List Int} (hd : 0 ≤ d) (hd2 : d < 256) (hg : ∀ g ∈ gs, ok16 g) (h60 : gs.length ≤ 60) : ∀ c ∈ apL d gs gs.length, ct c = true := by
  intro c hc
  unfold apL at hc
  obtain ⟨i, hi, rfl⟩ := List.mem_map.1 hc
  exact apC_ct hd hd2 hg (Nat.le_of_lt (List.mem_range.1 hi)) h60
theorem apL_apart {d : Int} {gs : List Int} (hd : 0 ≤ d) (hd2 : d < 256) (hg : ∀ g ∈ gs, ok16 g) : (apL d gs gs.length).Pairwise fun a b => zh a < zl b := by
  unfold apL
  rw [List.pairwise_map, List.pairwise_iff_getElem]
  intro i j gi gj hij
  rw [List.getElem_range, List.getElem_range]
  rw [List.length_range] at gi gj
  have h1 := atZ_mono hd hg j hij (by omega)
  unfold zh zl Ch.hi Ch.lo apC
  simp only
  omega
theorem run_bC (i o d : Int) (u : World) : (Instr.build 26 #[(0, .int .i64 i), (1, .int .i64 o), (2, .int .i64 d)]).run Try.prog u = .ok (.agg (cnL ⟨i, o, d, 0, 0, false, false⟩).toArray) u := by kernel_rfl
theorem ix_16 {ao : Option Addr} {ad : Addr} (n cap k : Nat) (h : ao = some ad) (hk : (k : Int) < n) (w : World) : Sem.run Try.prog (Instr.indexAt 36 (.slice ao n cap) (.int .i64 (k : Int))) w = .ok (.pointer (some (ad.add k))) w := by
  have u' := Try.underlying36
  have c3 : Try.prog.cellsOf 38 = 1 := by kernel_rfl
  have h0 : (0 : Int) ≤ k := Int.natCast_nonneg k
  subst h
  go_simp
theorem u16s_read {N : Nat} {w : World} {v : Value} {xs : List Int} (h : Rk N w 1 v (xs.map u16L)) : ∃ ao cap, v = .slice ao xs.length cap ∧ ∀ w' : World, (∀ p : Addr, p.block < N → w'.cell? p = w.cell? p) → ∀ (i : Nat) n, xs[i]? = some n → ∃ ad, ao = some ad ∧ w'.cell? (ad.add i) = some (.int .u16 n) := by
  obtain ⟨ao, cap, hv, _, hr⟩ := h
  rw [List.length_map] at hv hr
  refine ⟨ao, cap, hv, fun w' hw i n hn => ?_⟩
  have hi : i < xs.length := by
    rcases Nat.lt_or_ge i xs.length with h | h
    · exact h
    · rw [List.getElem?_eq_none h] at hn; cases hn
  obtain ⟨ad, k1, k2, k3⟩ := hr i hi
  refine ⟨ad, k1, ?_⟩
  rw [hw _ (by rw [add_block]; exact k2)]
  have := k3 0 (.int .u16 n) (by rw [List.getD_eq_getElem?_getD, List.getElem?_map, hn]; rfl)
  simpa using this
theorem rk_one {N : Nat} {w : World} {ao : Option Addr} {n cap : Nat} {l : List Cn} (h : Rk N w 7 (.slice ao n cap) (l.map cnL)) (h1 : 1 ≤ l.length) : Rk N w 7 (.slice ao 1 cap) ((l.take 1).map cnL) := by
  have := h.take 1 (by rw [List.length_map]; exact h1)
  rw [← List.map_take] at this
  exact this
set_option maxRecDepth 20000 in
set_option maxHeartbeats 2000000 in
theorem ChooseApart_row (v : Value) (d : Int) (gs : List Int) (w : World) (h : Rk w.heap.size w 1 v (gs.map u16L)) (hok : ∀ g ∈ gs, ok16 g) (hlen : gs.length ≤ maxLen) (hd : 0 ≤ d ∧ d < 256) :
    Calls Try.prog 5 #[v, .int .u8 d] w fun e w' => e = .returned (.bool true) ∧ Below w.heap.size w w' := by
  obtain ⟨ao, cap, hv, hr⟩ := u16s_read h
  have HR : Hid (∀ w', Below w.heap.size w w' → ∀ (i : Nat) n, gs[i]? = some n → ∃ ad, ao = some ad ∧ w'.cell? (ad.add i) = some (.int .u16 n)) := fun w' hb i n hn => hr w' (below_cells hb (Nat.le_refl _)) i n hn
  obtain ⟨n, hn⟩ : ∃ n, gs.length = n := ⟨_, rfl⟩
  have HN : Hid (gs.length = n) := hn
  have HG : Hid (∀ g ∈ gs, ok16 g) := hok
  rw [hn] at hv
  subst hv
  obtain ⟨hd0, hd1⟩ := hd
  clear h hr hn hok hlen
  by_cases hsm : (n : Int) < 2
  · go_enter Try.func5, Try.ntmps5
    refine post_hid fun Q hQ => ?_
    go_wp2_with fail
    rw [hQ.out]
    go_ret
    exact ⟨rfl, Below.refl _ _⟩
  by_cases hbig : (60 : Int) < n
  · go_enter Try.func5, Try.ntmps5
    refine post_hid fun Q hQ => ?_
    go_wp2_with fail
    rw [hQ.out]
    go_ret
    exact ⟨rfl, Below.refl _ _⟩
  have hn2 : (2 : Int) ≤ n := by omega
  have hn60 : (n : Int) ≤ 60 := by omega
  clear hsm hbig
  obtain ⟨DD, hDD⟩ : ∃ D, d * 65536 = D := ⟨_, rfl⟩
  have HDD : Hid (d * 65536 = DD) := hDD
  have bD0 : 0 ≤ DD := by omega
  have bD1 : DD ≤ 16777216 := by omega
  go_enter Try.func5, Try.ntmps5
  refine post_hid fun Q hQ => ?_
  go_wp2_with fail
  go_loopw [5, 6, 7] (fun x5 v6 i wr => ∃ (k : Nat) (Z : Int), i = .int .i64 k ∧ x5 = .int .i64 Z ∧ (k : Int) ≤ n ∧ 0 ≤ Z ∧ Z ≤ 263454720000 ∧ Hid (Z = atZ d gs k * 65536 ∧ Kp w wr v6 (apL d gs k))) (fun _ _ i _ => n - (intOf i).toNat)
  case atStart => exact ⟨0, 0, rfl, rfl, by omega, by omega, by omega, ⟨by rw [atZ_zero]; rfl, OR.fresh _ _ _ _ (Nat.le_refl _), (Below.refl _ _).alloc (Nat.le_refl _) _⟩⟩
  case round =>
    obtain ⟨k, Z, rfl, rfl, hk, hZ0, hZ1, HB⟩ := hrel
    obtain ⟨v6, hv6⟩ : ∃ v, v = u6 := ⟨_, rfl⟩
    subst hv6
    by_cases hlt : (k : Int) < n
    · have hkl : k < gs.length := by rw [HN.out]; omega
      obtain ⟨x, hx⟩ : ∃ x, gs[k]? = some x := ⟨_, List.getElem?_eq_getElem hkl⟩
      have hxo := HG.out x (List.mem_of_getElem? hx)
      obtain ⟨hx0, hx1⟩ : 0 ≤ x ∧ x < 65536 := hxo
      have HA : Hid (atZ d gs (k + 1) = atZ d gs k + (x + 2 * d + 1)) := atZ_succ hx
      have HI : Hid (gs[k]? = some x) := hx
      have HLn : Hid (((apL d gs k).map cnL).length ≤ 60) := by
        show _ ≤ _
        rw [List.length_map, apL_len]; omega
      have HZb : Hid (0 ≤ atZ d gs (k + 1) ∧ atZ d gs (k + 1) ≤ 4020000) := by
        have h1 := atZ_bd hd0 hd1 HG.out (k + 1) (by omega)
        refine ⟨h1.1, ?_⟩
        have := h1.2
        push_cast at this
        omega
      clear hx hkl
      go_upto_region 9 with (first
        | (refine step_bdL (by rfl) 26 [(0, _), (1, _), (2, _)] rfl [(0, .int .i64 k), (1, .int .i64 Z), (2, .int .i64 DD)] (by rfl) _ (run_bC k Z DD wr) ?_)
        | (refine step_bsL (by rfl) 22 26 _ rfl (.agg (cnL ⟨(k : Int), Z, DD, 0, 0, false, false⟩).toArray) (cnL ⟨(k : Int), Z, DD, 0, 0, false, false⟩) (by rfl) (run_bsC ⟨(k : Int), Z, DD, 0, 0, false, false⟩) ?_; intro w6 g6 H7)
        | (at_builtin; refine step_apL tiC rfl _ _ rfl w.heap.size g6 v6 (cnL ⟨(k : Int), Z, DD, 0, 0, false, false⟩) (by rfl) (by rfl) rfl (cnL_one _) wr _ ?_ ?_ HB.out.2.ow H7.out HB.out.2.be.size ?_; (have := HLn.out; simp only [maxLen]; omega); (have := HLn.out; omega); intro v7 w7 H8))
      have HK : Hid (Kp w w7 v7 (apL d gs (k + 1))) := by
        refine ⟨?_, HB.out.2.be.trans H8.out.2⟩
        have e : apC d gs k = ⟨(k : Int), Z, DD, 0, 0, false, false⟩ := by unfold apC; rw [HB.out.1, HDD.out]
        rw [apL_succ, List.map_append, e]
        exact H8.out.1
      obtain ⟨ad, g1, g3⟩ := HR.out w7 HK.out.be k x HI.out
      have hix := ix_16 n cap k g1 hlt
      clear g1 H7 H8
      go_wp2_with fail
      go_roundw
      case rel =>
        refine ⟨k + 1, atZ d gs (k + 1) * 65536, by go_num, ?_, by omega, by have := HZb.out; omega, by have := HZb.out; omega, ⟨rfl, HK.out⟩⟩
        have h1 := HA.out
        have h2 := HB.out.1
        congr 1
        rw [h1]
        omega
      case measure => simp [intOf]; omega
    · have hkn : k = n := by omega
      subst hkn
      have h2l : 2 ≤ (apL d gs k).length := by rw [apL_len]; omega
      have h64 : (apL d gs k).length ≤ 64 := by rw [apL_len]; omega
      have e := HN.out
      have HM : mtl (apL d gs k) = none ∧ sv (apL d gs k) = [] := apart_mt h2l h64 (by rw [← e]; exact apL_ct hd0 hd1 HG.out (by omega)) (by rw [← e]; exact apL_apart hd0 hd1 HG.out)
      obtain ⟨xs, hxs⟩ : ∃ xs, apL d gs k = xs := ⟨_, rfl⟩
      rw [hxs] at HM HB h2l h64
      have hl : xs.length = k := by rw [← hxs]; exact apL_len _ _ _
      have H1 : mtl (xs.take 1) = some (lo (apC d gs 0), hi (apC d gs 0)) := by
        refine (same_mt (c := apC d gs 0) (by rw [List.length_take]; omega) (by rw [List.length_take]; omega) (apC_ct hd0 hd1 HG.out (by omega) (by omega)) ?_).1
        intro x hx
        have : x = apC d gs 0 := by
          rw [← hxs] at hx
          obtain ⟨k', hk'⟩ : ∃ k', k = k' + 1 := ⟨k - 1, by omega⟩
          rw [hk'] at hx
          unfold apL at hx
          rw [List.range_succ_eq_map] at hx
          simpa using hx
        rw [this]
        exact ⟨rfl, rfl⟩
      obtain ⟨w4, hw4⟩ : ∃ w4, w4 = wr := ⟨_, rfl⟩
      subst hw4
      obtain ⟨ao6, cap6, hv6⟩ := or_len HB.out.2.ow
      rw [List.length_map, hl] at hv6
      subst hv6
      have CM : Hid (Calls Try.prog 10 #[.slice ao6 k cap6] w4 fun e w' => e = .returned (.tuple #[.int .i64 0, .int .i64 0, .bool false]) ∧ Hid (Below w4.heap.size w4 w')) := by
        have := meet_any _ xs w4 w4.heap.size HB.out.2.ow.rk (Nat.le_refl _) (by omega)
        have e : mtL xs = none := HM.1
        rw [e] at this
        exact this
      obtain ⟨A, B, CN⟩ : ∃ A B : Int, Hid (∀ u, Kp w u (.slice ao6 k cap6) xs → Calls Try.prog 10 #[.slice ao6 1 cap6] u fun e w' => e = .returned (.tuple #[.int .i64 A, .int .i64 B, .bool true]) ∧ Hid (Below u.heap.size u w')) := by
        refine ⟨lo (apC d gs 0) * 65536, hi (apC d gs 0) * 65536, fun u hu => ?_⟩
        have := meet_any _ (xs.take 1) u u.heap.size (rk_one hu.ow.rk (by omega)) (Nat.le_refl _) (by rw [List.length_take]; omega)
        have e : mtL (xs.take 1) = some (lo (apC d gs 0), hi (apC d gs 0)) := H1
        rw [e] at this
        exact this
      have CS : Hid (∀ u, Kp w u (.slice ao6 k cap6) xs → Calls Try.prog 12 #[.slice ao6 k cap6] u fun e w' => ∃ s, e = .returned s ∧ Hid (OR w' u.heap.size 26 7 s (([] : List Cn).map cnL)) ∧ Hid (Below u.heap.size u w')) := fun u hu => by
        have := survivors_any _ xs u u.heap.size hu.ow.rk (Nat.le_refl _) (by omega)
        rw [HM.2] at this
        exact this
      have hcap : (k : Int) ≤ cap6 := by
        obtain ⟨a, b, h1, h2, _⟩ := HB.out.2.ow.rk
        injection h1 with _ _ h1
        rw [List.length_map, hl] at h2
        omega
      have HK4 : Hid (Kp w w4 (.slice ao6 k cap6) xs) := HB.out.2
      clear HM H1 hxs hl h2l h64 e HB hlt
      go_wp2_with fail
      refine CM.out.mono ?_
      rintro e w5 ⟨rfl, hb5⟩
      have HK5 : Hid (Kp w w5 (.slice ao6 k cap6) xs) := HK4.out.next hb5.out
      clear hb5 HK4 CM
      go_wp2_with fail
      refine (CN.out _ HK5.out).mono ?_
      rintro e w6 ⟨rfl, hb6⟩
      have HK6 : Hid (Kp w w6 (.slice ao6 k cap6) xs) := HK5.out.next hb6.out
      clear hb6 HK5 CN
      go_wp2_with fail
      refine (CS.out _ HK6.out).mono ?_
      rintro e w7 ⟨s, rfl, O7, hb7⟩
      obtain ⟨ao7, cap7, hs⟩ := or_len O7.out
      have HK7 : Hid (Kp w w7 (.slice ao6 k cap6) xs) := HK6.out.next hb7.out
      rw [List.map_nil, List.length_nil] at hs
      subst hs
      clear hb7 HK6 CS O7
      go_wp2_with fail
      rw [hQ.out]
      go_ret
      exact ⟨rfl, HK7.out.be⟩
end Go.Proofs.Ytepbbaeamlimaaa
