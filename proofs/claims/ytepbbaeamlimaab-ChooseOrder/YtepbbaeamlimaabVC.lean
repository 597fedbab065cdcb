/- ChooseOrder. -/
import Derived.Test.YtepbbaeamlimaabUV
import Derived.Test.YtepbbaeamlimaabUR
import Derived.Test.YtepbbaeamlimaabUOr
namespace Go.Proofs.Ytepbbaeamlimaab
open Go Go.RowKit Go.Sort Ch Pu
set_option linter.unusedVariables false
theorem ix_ownD {g : Nat} (n cap k : Nat) (hk : (k : Int) < n) (w : World) : Sem.run Try.prog (Instr.indexAt 22 (.slice (some ⟨g, 0, none⟩) n cap) (.int .i64 (k : Int))) w = .ok (.pointer (some ⟨g, k * 7, none⟩)) w := by
  have := ix_C (ao := some ⟨g, 0, none⟩) (ad := ⟨g, 0, none⟩) n cap k rfl hk w
  rw [add_own] at this
  exact this
theorem ix_int {ao : Option Addr} {ad : Addr} (n cap k : Nat) (h : ao = some ad) (hk : (k : Int) < n) (w : World) : Sem.run Try.prog (Instr.indexAt 30 (.slice ao n cap) (.int .i64 (k : Int))) w = .ok (.pointer (some (ad.add k))) w := by
  have u' := Try.underlying30
  have c3 : Try.prog.cellsOf 3 = 1 := by kernel_rfl
  have h0 : (0 : Int) ≤ k := Int.natCast_nonneg k
  subst h
  go_simp
theorem ints_read {N : Nat} {w : World} {v : Value} {xs : List Int} (h : Rk N w 1 v (xs.map intC)) : ∃ ao cap, v = .slice ao xs.length cap ∧ ∀ w' : World, (∀ p : Addr, p.block < N → w'.cell? p = w.cell? p) → ∀ (i : Nat) n, xs[i]? = some n → ∃ ad, ao = some ad ∧ w'.cell? (ad.add i) = some (.int .i64 n) := by
  obtain ⟨ao, cap, hv, _, hr⟩ := h
  rw [List.length_map] at hv hr
  refine ⟨ao, cap, hv, fun w' hw i n hn => ?_⟩
  have hi : i < xs.length := by
    rcases Nat.lt_or_ge i xs.length with h | h
    · exact h
    · rw [List.getElem?_eq_none h] at hn; cases hn
  obtain ⟨ad, k1, k2, k3⟩ := hr i hi
  refine ⟨ad, k1, ?_⟩
  rw [hw _ (by rw [add_block]; exact k2)]
  have := k3 0 (.int .i64 n) (by rw [List.getD_eq_getElem?_getD, List.getElem?_map, hn]; rfl)
  simpa using this
theorem swap_cn {xs : List Cn} {i k : Nat} {c d : Cn} (hi : xs[i]? = some c) (hk : xs[k]? = some d) : ((xs.set i d).set k c).Perm xs := by
  have li : i < xs.length := by
    rcases Nat.lt_or_ge i xs.length with h | h
    · exact h
    · rw [List.getElem?_eq_none h] at hi; cases hi
  have lk : k < xs.length := by
    rcases Nat.lt_or_ge k xs.length with h | h
    · exact h
    · rw [List.getElem?_eq_none h] at hk; cases hk
  have h := Array.swap_perm (xs := xs.toArray) (i := i) (j := k) (by simpa using li) (by simpa using lk)
  have h2 := h.toList
  rw [Array.toList_swap] at h2
  rw [List.getElem?_eq_getElem li] at hi
  rw [List.getElem?_eq_getElem lk] at hk
  rw [← Option.some.inj hi, ← Option.some.inj hk]
  simpa using h2
/-- within the loop: some order of what came in -/
structure Ko (w u : World) (g n cap : Nat) (l xs : List Cn) : Prop where
  ow : OR u w.heap.size 25 7 (.slice (some ⟨g, 0, none⟩) n cap) (xs.map cnL)
  be : Below w.heap.size w u
  pm : xs.Perm l
  gw : w.heap.size ≤ g
theorem grown_below {w u u' : World} {g : Nat} (h : Below w.heap.size w u) (hg : u.grownBy u' (some g)) (hw : w.heap.size ≤ g) : Below w.heap.size w u' := h.trans ⟨hg.os, hg.tape, hg.output, hg.size, fun b hb => hg.block b (by have := h.size; omega) (fun e => by injection e with e; omega)⟩
theorem Ko.at {w u : World} {g n cap : Nat} {l xs : List Cn} (h : Ko w u g n cap l xs) {i : Nat} {c : Cn} (hc : xs[i]? = some c) : ∀ j x, (cnL c)[j]? = some x → u.cell? ((⟨g, i * 7, none⟩ : Addr).add j) = some x := fun j x hx => by
  have hi : i < (xs.map cnL).length := by
    rw [List.length_map]
    rcases Nat.lt_or_ge i xs.length with h | h
    · exact h
    · rw [List.getElem?_eq_none h] at hc; cases hc
  exact h.ow.at i hi j x (by rw [List.getD_eq_getElem?_getD, List.getElem?_map, hc]; exact hx)
set_option maxRecDepth 20000 in
set_option maxHeartbeats 2000000 in
theorem order_end (ao : Option Addr) (n cap : Nat) (l : List Cn) (w : World) (H0 : Hid (Rk w.heap.size w 7 (.slice ao n cap) (l.map cnL))) (v5 : Value) (xs : List Cn) (h64 : l.length ≤ 60) (hp : xs.Perm l) :
    ∃ (A B : Int) (X : Bool) (ns : Nat), Hid ((∀ u, Kp w u v5 xs → Calls Try.prog 6 #[.slice ao n cap] u fun e w' => e = .returned (.tuple #[.int .i64 A, .int .i64 B, .bool X]) ∧ Hid (Below u.heap.size u w')) ∧
      (∀ u, Kp w u v5 xs → Calls Try.prog 6 #[v5] u fun e w' => e = .returned (.tuple #[.int .i64 A, .int .i64 B, .bool X]) ∧ Hid (Below u.heap.size u w')) ∧
      (∀ u, Kp w u v5 xs → Calls Try.prog 7 #[.slice ao n cap] u fun e w' => e = .returned (.tuple #[.int .i64 A, .int .i64 B, .bool X]) ∧ Hid (Below u.heap.size u w')) ∧
      (∀ u, Kp w u v5 xs → Calls Try.prog 8 #[.slice ao n cap] u fun e w' => ∃ so sc, e = .returned (.slice so ns sc) ∧ Hid (Below u.heap.size u w')) ∧
      (∀ u, Kp w u v5 xs → Calls Try.prog 8 #[v5] u fun e w' => ∃ so sc, e = .returned (.slice so ns sc) ∧ Hid (Below u.heap.size u w')) ∧ ns ≤ 64) := by
  have hl1 : xs.length ≤ 60 := by rw [hp.length_eq]; exact h64
  have e1 : mtL xs = mtL l := mtl_same (th_perm hp (by omega))
  have e2 : (sv xs).length = (sv l).length := sv_same (th_perm hp (by omega))
  refine ⟨mA (mtL l), mB (mtL l), (mtL l).isSome, (sv l).length, ⟨fun u hu => ?_, fun u hu => ?_, fun u hu => ?_, fun u hu => ?_, fun u hu => ?_, sv_le l⟩⟩
  · exact meet_any _ l u w.heap.size (H0.out.below hu.be (Nat.le_refl _)) hu.be.size (by omega)
  · rw [← e1]
    exact meet_any _ xs u u.heap.size hu.ow.rk (Nat.le_refl _) (by omega)
  · exact rmeet_any _ l u w.heap.size (H0.out.below hu.be (Nat.le_refl _)) hu.be.size (by omega)
  · refine (survivors_any _ l u w.heap.size (H0.out.below hu.be (Nat.le_refl _)) hu.be.size (by omega)).mono ?_
    rintro e w' ⟨s, rfl, o, hb⟩
    obtain ⟨so, sc, hs⟩ := or_len o.out
    rw [List.length_map] at hs
    exact ⟨so, sc, by rw [hs], hb⟩
  · refine (survivors_any _ xs u u.heap.size hu.ow.rk (Nat.le_refl _) (by omega)).mono ?_
    rintro e w' ⟨s, rfl, o, hb⟩
    obtain ⟨so, sc, hs⟩ := or_len o.out
    rw [List.length_map, e2] at hs
    exact ⟨so, sc, by rw [hs], hb⟩
set_option maxRecDepth 20000 in
set_option maxHeartbeats 2000000 in
theorem ChooseOrder_row (v1 v2 : Value) (l : List Cn) (ps : List Int) (w : World) (h : Rk w.heap.size w 7 v1 (l.map cnL)) (hok : ∀ c ∈ l, okC c) (hlen : l.length ≤ maxLen) (hra : Ra v1) (h2 : Rk w.heap.size w 1 v2 (ps.map intC)) (hok2 : ∀ a ∈ ps, ok64 a) (hlen2 : ps.length ≤ maxLen) :
    Calls Try.prog 4 #[v1, v2] w fun e w' => e = .returned (.bool true) ∧ Below w.heap.size w w' := by
  obtain ⟨ao, cap, hv, _, _⟩ := cands_read h
  obtain ⟨po, pcap, hv2, hr2⟩ := ints_read h2
  have HR2 : Hid (∀ w', Below w.heap.size w w' → ∀ (i : Nat) n, ps[i]? = some n → ∃ ad, po = some ad ∧ w'.cell? (ad.add i) = some (.int .i64 n)) := fun w' hb i n hn => hr2 w' (below_cells hb (Nat.le_refl _)) i n hn
  obtain ⟨n, hn⟩ : ∃ n, l.length = n := ⟨_, rfl⟩
  have HN : Hid (l.length = n) := hn
  obtain ⟨m, hm⟩ : ∃ m, ps.length = m := ⟨_, rfl⟩
  have HM : Hid (ps.length = m ∧ ∀ a ∈ ps, ok64 a) := ⟨hm, hok2⟩
  rw [hn] at hv hlen
  rw [hm] at hv2 hlen2
  subst hv
  subst hv2
  have H0 : Hid (Rk w.heap.size w 7 (.slice ao n cap) (l.map cnL) ∧ Ra (.slice ao n cap)) := ⟨h, hra⟩
  have hm9 : (m : Int) ≤ 9223372036854775807 := by unfold maxLen at hlen2; omega
  clear h hn hm hlen hok hra h2 hr2 hok2 hlen2
  by_cases hbig : (60 : Int) < n
  · go_enter Try.func4, Try.ntmps4
    refine post_hid fun Q hQ => ?_
    go_wp2_with fail
    rw [hQ.out]
    go_ret
    exact ⟨rfl, Below.refl _ _⟩
  have hl2 : (n : Int) ≤ 60 := by omega
  clear hbig
  have HL : Hid ((l.map cnL).length = n ∧ l.length ≤ 60 ∧ n ≤ 60) := ⟨by rw [List.length_map]; exact HN.out, by rw [HN.out]; omega, by omega⟩
  go_enter Try.func4, Try.ntmps4
  refine post_hid fun Q hQ => ?_
  go_upto_region 4 with (fail)
  refine world_hid fun W hW => ?_
  have HB : Hid (OR W w.heap.size 25 7 (.slice (some ⟨w.heap.size, 0, none⟩) 0 0) [] ∧ Below w.heap.size w W) := by
    rw [hW.out]
    exact ⟨OR.fresh _ _ _ _ (Nat.le_refl _), (Below.refl _ _).alloc (Nat.le_refl _) _⟩
  have HX : Hid (Rk w.heap.size W 7 (.slice ao n cap) (l.map cnL) ∧ (∀ r ∈ l.map cnL, r.length = 7) ∧ ∀ r ∈ l.map cnL, ∀ u ∈ r, u.oneCell' = true) := by
    refine ⟨H0.out.1.below HB.out.2 (Nat.le_refl _), fun r hr => ?_, fun r hr => ?_⟩
    · obtain ⟨c, _, rfl⟩ := List.mem_map.1 hr; rfl
    · obtain ⟨c, _, rfl⟩ := List.mem_map.1 hr; exact cnL_one c
  clear hW
  go_upto_region 5 with (at_builtin; refine wpList_appk tiC rfl _ _ rfl w.heap.size w.heap.size (.slice (some ⟨w.heap.size, 0, none⟩) 0 0) (.slice ao n cap) [] (l.map cnL) (by rfl) (by rfl) HB.out.1 HX.out.1 H0.out.2 HX.out.2.1 HX.out.2.2 ?_ ?_ HB.out.2.size ?_; (have := HL.out; simp only [maxLen, List.length_nil]; omega); (have := HL.out; simp only [List.length_nil]; omega); intro v3 w3 h3 hg3 _; have K3 : Hid (Kp w w3 v3 l) := ⟨h3, HB.out.2.trans (below_own hg3 HB.out.2.size HB.out.1.own)⟩; clear h3 hg3)
  clear HB HX
  obtain ⟨ao3, cap3, hv3⟩ := or_len K3.out.ow
  rw [HL.out.1] at hv3
  subst hv3
  have H1 : Hid (Rk w.heap.size w 7 (.slice ao n cap) (l.map cnL)) := H0.out.1
  clear H0
  go_wp2_with fail
  go_loopw [6] (fun i wr => ∃ (k : Nat), i = .int .i64 k ∧ (k : Int) ≤ n ∧ Hid (∃ xs, xs.Perm l ∧ Kp w wr (.slice ao3 n cap3) xs)) (fun i _ => n - (intOf i).toNat)
  case atStart => exact ⟨0, rfl, by omega, ⟨l, List.Perm.refl _, K3.out⟩⟩
  case round =>
    obtain ⟨k, rfl, hk, HK⟩ := hrel
    clear K3
    have fin : Hid (∃ xs, xs.Perm l ∧ Kp w wr (.slice ao3 n cap3) xs) := HK
    obtain ⟨xs, hxp, hxk⟩ := HK.out
    have HE := order_end ao n cap l w H1 (.slice ao3 n cap3) xs HL.out.2.1 hxp
    obtain ⟨A, B, X, ns, HE⟩ := HE
    have hns : (ns : Int) ≤ 64 := by have := HE.out.2.2.2.2.2; omega
    have HK1 : Hid (Kp w wr (.slice ao3 n cap3) xs) := hxk
    have HXP : Hid (xs.Perm l ∧ xs.length = n) := ⟨hxp, by rw [hxp.length_eq]; exact HN.out⟩
    have hAA : (A == A) = true := by simp
    have hBB : (B == B) = true := by simp
    have hXX : (X == X) = true := by simp
    have hSS : ((ns : Int) == (ns : Int)) = true := by simp
    clear hxp hxk HK fin
    by_cases hlt : (k : Int) < n
    · by_cases hltm : (k : Int) < m
      · have hkl : k < xs.length := by rw [HXP.out.2]; omega
        have hkp : k < ps.length := by rw [HM.out.1]; omega
        obtain ⟨c, hc⟩ : ∃ c, xs[k]? = some c := ⟨_, List.getElem?_eq_getElem hkl⟩
        obtain ⟨pk, hpk⟩ : ∃ p, ps[k]? = some p := ⟨_, List.getElem?_eq_getElem hkp⟩
        obtain ⟨ad, g1, g3⟩ := HR2.out wr HK1.out.be k pk hpk
        have hix := ix_int m pcap k g1 hltm
        have hpb := HM.out.2 pk (List.mem_of_getElem? hpk)
        obtain ⟨hp0, hp1⟩ : -9223372036854775808 ≤ pk ∧ pk ≤ 9223372036854775807 := hpb
        obtain ⟨g, cap', hv, _, hgw, hgl⟩ := HK1.out.ow.form (by rw [List.length_map]; omega)
        rw [List.length_map, HXP.out.2] at hv
        injection hv with hv1 hv2 hv3
        subst hv1
        subst hv3
        have hn0 : (n : Int) ≠ 0 := by omega
        have hn00 : ((n : Int) == 0) = false := by simp; omega
        obtain ⟨T1, hT1⟩ : ∃ T, pk.tmod (n : Int) = T := ⟨_, rfl⟩
        obtain ⟨T2, hT2⟩ : ∃ T, (T1 + n).tmod (n : Int) = T := ⟨_, rfl⟩
        obtain ⟨t0, t1⟩ := tmod_bd pk (n : Int) (by omega)
        rw [hT1] at t0 t1
        have t2 : 0 ≤ T2 := by rw [← hT2]; exact Int.tmod_nonneg _ (by omega)
        have t3 : T2 < n := by rw [← hT2]; exact Int.tmod_lt_of_pos _ (by omega)
        obtain ⟨q, hq⟩ : ∃ q : Nat, T2 = q := ⟨T2.toNat, by omega⟩
        subst hq
        have hql : q < xs.length := by rw [HXP.out.2]; omega
        obtain ⟨d, hd⟩ : ∃ d, xs[q]? = some d := ⟨_, List.getElem?_eq_getElem hql⟩
        have KO : Hid (Ko w wr g n cap3 l xs) := ⟨HK1.out.ow, HK1.out.be, HXP.out.1, hgw⟩
        have HI : Hid (xs[k]? = some c ∧ xs[q]? = some d ∧ k < xs.length ∧ q < xs.length ∧ g < wr.heap.size) := ⟨hc, hd, hkl, hql, hgl⟩
        have hik := ix_ownD (g := g) n cap3 k hlt
        have hiq := ix_ownD (g := g) n cap3 q t3
        have HS : Hid (∀ j u, (cnL c)[j]? = some u → wr.cell? ((⟨g, k * 7, none⟩ : Addr).add j) = some u) := KO.out.at hc
        clear g1 hc hd hkl hql hpk hkp HE hAA hBB hXX hSS hns hgw hgl hv2 HK1
        go_upto_region 9 with (fail)
        clear hix g3 hT1 hT2
        go_upto_region 10 with (first
          | (refine step_ldat 25 _ rfl rfl ⟨g, k * 7, none⟩ (by rfl) (cnL c) _ Try.underlying25 rfl (by kernel_rfl) HS.out ?_)
          | (refine step_alL (by rfl) 25 rfl (cnL zCn).toArray (fun u => by kernel_rfl) ?_; intro w6 g8 H6)
          | (refine step_stL (by rfl) _ _ rfl g8 (cnL c).toArray (by rfl) (by rfl) (cnL zCn).toArray (by kernel_rfl) (by kernel_rfl) (by kernel_rfl) H6.out.bk ?_; intro w7 H7))
        have K7 : Hid (Ko w w7 g n cap3 l xs ∧ Bk g8 w7 (cnL c).toArray 25 ∧ g < g8) := by
          have hb := H7.out.below H6.out.be H6.out.be.size (Nat.le_of_eq H6.out.at'.symm)
          have e := H6.out.at'
          exact ⟨⟨KO.out.ow.below hb (Nat.le_refl _), below_thru KO.out.be hb, KO.out.pm, KO.out.gw⟩, H7.out.bk, by have := HI.out.2.2.2.2; omega⟩
        clear H6 H7 HS KO
        have HS : Hid (∀ j u, (cnL d)[j]? = some u → w7.cell? ((⟨g, q * 7, none⟩ : Addr).add j) = some u) := K7.out.1.at HI.out.2.1
        have HO : Hid (OR w7 w.heap.size 25 7 (.slice (some ⟨g, 0, none⟩) (xs.map cnL).length cap3) (xs.map cnL) ∧ k < (xs.map cnL).length) := ⟨by rw [List.length_map, HXP.out.2]; exact K7.out.1.ow, by rw [List.length_map]; exact HI.out.2.2.1⟩
        go_upto_region 11 with (first
          | (refine step_ldat 25 _ rfl rfl ⟨g, q * 7, none⟩ (by rfl) (cnL d) _ Try.underlying25 rfl (by kernel_rfl) HS.out ?_)
          | (refine wpList_stk rfl 25 _ _ rfl k (cnL d) HO.out.1 (by kernel_rfl) (by rfl) (by rfl) HO.out.2 rfl (cnL_one _) ?_; intro w8 ho8 hg8 hz8))
        have K8 : Hid (OR w8 w.heap.size 25 7 (.slice (some ⟨g, 0, none⟩) n cap3) ((xs.set k d).map cnL) ∧ Below w.heap.size w w8 ∧ Bk g8 w8 (cnL c).toArray 25) := by
          refine ⟨?_, grown_below K7.out.1.be hg8 K7.out.1.gw, K7.out.2.1.kept (hg8.block g8 K7.out.2.1.lt (fun e => by injection e with e; have := K7.out.2.2; omega))⟩
          rw [List.length_map, HXP.out.2] at ho8
          rw [List.map_set]
          exact ho8
        have HG : Hid (w.heap.size ≤ g) := K7.out.1.gw
        clear ho8 hg8 hz8 HO HS K7
        have HS : Hid (∀ j u, (cnL c)[j]? = some u → w8.cell? ((⟨g8, 0, none⟩ : Addr).add j) = some u) := cells_of (l := cnL c) K8.out.2.2
        have HO : Hid (OR w8 w.heap.size 25 7 (.slice (some ⟨g, 0, none⟩) ((xs.set k d).map cnL).length cap3) ((xs.set k d).map cnL) ∧ q < ((xs.set k d).map cnL).length) := ⟨by rw [List.length_map, List.length_set, HXP.out.2]; exact K8.out.1, by rw [List.length_map, List.length_set]; exact HI.out.2.2.2.1⟩
        go_wp2_with (first
          | (refine step_ldat 25 _ rfl rfl ⟨g8, 0, none⟩ (by rfl) (cnL c) _ Try.underlying25 rfl (by kernel_rfl) HS.out ?_)
          | (refine wpList_stk rfl 25 _ _ rfl q (cnL c) HO.out.1 (by kernel_rfl) (by rfl) (by rfl) HO.out.2 rfl (cnL_one _) ?_; intro w9 ho9 hg9 hz9))
        go_roundw
        case rel =>
          refine ⟨k + 1, by go_num, by omega, ⟨(xs.set k d).set q c, (swap_cn HI.out.1 HI.out.2.1).trans HXP.out.1, ?_, grown_below K8.out.2.1 hg9 HG.out⟩⟩
          rw [List.length_map, List.length_set, HXP.out.2] at ho9
          rw [List.map_set]
          exact ho9
        case measure => (simp [intOf]; try omega)
      · obtain ⟨w4, hw4⟩ : ∃ w4, w4 = wr := ⟨_, rfl⟩
        subst hw4
        go_wp2_with fail
        refine (HE.out.1 _ HK1.out).mono ?_
        rintro e w5 ⟨rfl, hb5⟩
        have K5 : Hid (Kp w w5 (.slice ao3 n cap3) xs) := HK1.out.next hb5.out
        clear hb5 HK1
        go_wp2_with fail
        refine (HE.out.2.1 _ K5.out).mono ?_
        rintro e w6 ⟨rfl, hb6⟩
        have K6 : Hid (Kp w w6 (.slice ao3 n cap3) xs) := K5.out.next hb6.out
        clear hb6 K5
        go_wp2_with fail
        refine (HE.out.2.2.1 _ K6.out).mono ?_
        rintro e w7 ⟨rfl, hb7⟩
        have K7 : Hid (Kp w w7 (.slice ao3 n cap3) xs) := K6.out.next hb7.out
        clear hb7 K6
        go_wp2_with fail
        refine (HE.out.2.2.2.1 _ K7.out).mono ?_
        rintro e w8 ⟨so, sc, rfl, hb8⟩
        have K8 : Hid (Kp w w8 (.slice ao3 n cap3) xs) := K7.out.next hb8.out
        clear hb8 K7
        go_wp2_with fail
        refine (HE.out.2.2.2.2.1 _ K8.out).mono ?_
        rintro e w9 ⟨so2, sc2, rfl, hb9⟩
        have K9 : Hid (Kp w w9 (.slice ao3 n cap3) xs) := K8.out.next hb9.out
        clear hb9 K8
        go_wp2_with fail
        rw [hQ.out]
        go_ret
        exact ⟨ret_bool' (by first | rfl | (simp; done)), K9.out.be⟩
    · obtain ⟨w4, hw4⟩ : ∃ w4, w4 = wr := ⟨_, rfl⟩
      subst hw4
      go_wp2_with fail
      refine (HE.out.1 _ HK1.out).mono ?_
      rintro e w5 ⟨rfl, hb5⟩
      have K5 : Hid (Kp w w5 (.slice ao3 n cap3) xs) := HK1.out.next hb5.out
      clear hb5 HK1
      go_wp2_with fail
      refine (HE.out.2.1 _ K5.out).mono ?_
      rintro e w6 ⟨rfl, hb6⟩
      have K6 : Hid (Kp w w6 (.slice ao3 n cap3) xs) := K5.out.next hb6.out
      clear hb6 K5
      go_wp2_with fail
      refine (HE.out.2.2.1 _ K6.out).mono ?_
      rintro e w7 ⟨rfl, hb7⟩
      have K7 : Hid (Kp w w7 (.slice ao3 n cap3) xs) := K6.out.next hb7.out
      clear hb7 K6
      go_wp2_with fail
      refine (HE.out.2.2.2.1 _ K7.out).mono ?_
      rintro e w8 ⟨so, sc, rfl, hb8⟩
      have K8 : Hid (Kp w w8 (.slice ao3 n cap3) xs) := K7.out.next hb8.out
      clear hb8 K7
      go_wp2_with fail
      refine (HE.out.2.2.2.2.1 _ K8.out).mono ?_
      rintro e w9 ⟨so2, sc2, rfl, hb9⟩
      have K9 : Hid (Kp w w9 (.slice ao3 n cap3) xs) := K8.out.next hb9.out
      clear hb9 K8
      go_wp2_with fail
      rw [hQ.out]
      go_ret
      exact ⟨ret_bool' (by first | rfl | (simp; done)), K9.out.be⟩
end Go.Proofs.Ytepbbaeamlimaab
