/- ChooseCounts. -/
import Derived.Test.YtepbbaeamlimaaaUK
import Derived.Test.YtepbbaeamlimaaaUO
namespace Go.Proofs.Ytepbbaeamlimaaa
open Go Go.RowKit Go.Sort Ch Pu
set_option linter.unusedVariables false
/-- a row of candidates that the law has made, and what came in -/
structure Kp (w u : World) (v3 : Value) (xs : List Cn) : Prop where
  ow : OR u w.heap.size 26 7 v3 (xs.map cnL)
  be : Below w.heap.size w u
theorem Kp.next {w u u' : World} {v3 : Value} {xs : List Cn} (h : Kp w u v3 xs) (hb : Below u.heap.size u u') : Kp w u' v3 xs := ⟨h.ow.below hb (Nat.le_refl _), below_thru h.be hb⟩
theorem mtL_th {l l' : List Cn} (h : th l' = th l) : mtL l' = mtL l := by unfold mtL E; rw [h]
theorem E_th {l l' : List Cn} (h : th l' = th l) : E l' = E l := by unfold E; rw [h]
theorem sv_th {l l' : List Cn} (h : th l' = th l) : sv l' = sv l := by unfold sv E; rw [h]
theorem sv_le (l : List Cn) : (sv l).length ≤ 64 := by
  have h1 := th_len l
  unfold sv
  split
  · simp
  · exact Nat.le_trans (List.length_filter_le _ _) h1
set_option maxRecDepth 20000 in
set_option maxHeartbeats 2000000 in
theorem ChooseCounts_row (v : Value) (l : List Cn) (w : World) (h : Rk w.heap.size w 7 v (l.map cnL)) (hok : ∀ c ∈ l, okC c) (hlen : l.length ≤ maxLen) :
    Calls Try.prog 3 #[v] w fun e w' => e = .returned (.bool true) ∧ Below w.heap.size w w' := by
  have H0 : Hid (Rk w.heap.size w 7 v (l.map cnL)) := h
  obtain ⟨ao, cap, hv, hcap, hr⟩ := cands_read h
  have HR : Hid (∀ w', Below w.heap.size w w' → ∀ (i : Nat) c, l[i]? = some c → ∃ ad, ao = some ad ∧ ad.block < w.heap.size ∧ ∀ j u, (cnL c)[j]? = some u → w'.cell? ((ad.add (i * 7)).add j) = some u) := fun w' hb i c hc => hr w' (below_cells hb (Nat.le_refl _)) i c hc
  obtain ⟨n, hn⟩ : ∃ n, l.length = n := ⟨_, rfl⟩
  have HN : Hid (l.length = n) := hn
  rw [hn] at hv hlen
  subst hv
  clear h hr hn hcap hlen hok
  by_cases hbig : (60 : Int) < n
  · go_enter Try.func3, Try.ntmps3
    refine post_hid fun Q hQ => ?_
    go_wp2_with fail
    rw [hQ.out]
    go_ret
    exact ⟨rfl, Below.refl _ _⟩
  · have hl2 : (n : Int) ≤ 60 := by omega
    clear hbig
    go_enter Try.func3, Try.ntmps3
    refine post_hid fun Q hQ => ?_
    go_wp2_with fail
    go_loopw [3, 4] (fun v3 i wr => ∃ (k : Nat), i = .int .i64 k ∧ (k : Int) ≤ n ∧ Hid (Kp w wr v3 ((l.take k).filter ct))) (fun _ i _ => n - (intOf i).toNat)
    case atStart => exact ⟨0, rfl, by omega, ⟨OR.fresh _ _ _ _ (Nat.le_refl _), (Below.refl _ _).alloc (Nat.le_refl _) _⟩⟩
    case round =>
      obtain ⟨k, rfl, hk, HB⟩ := hrel
      obtain ⟨ao3, cap3, hv3⟩ := or_len HB.out.ow
      obtain ⟨n3, hn3⟩ : ∃ n3 : Nat, n3 = (((l.take k).filter ct).map cnL).length := ⟨_, rfl⟩
      rw [← hn3] at hv3
      subst hv3
      have HN3 : Hid (n3 = ((l.take k).filter ct).length ∧ n3 ≤ 60) := by
        rw [List.length_map] at hn3
        have h1 := List.length_filter_le ct (l.take k)
        rw [List.length_take] at h1
        exact ⟨hn3, by omega⟩
      have hn60 : (n3 : Int) ≤ 60 := by have := HN3.out.2; omega
      clear hn3
      by_cases hlt : (k : Int) < n
      · have hkl : k < l.length := by rw [HN.out]; omega
        obtain ⟨c, hc⟩ : ∃ c, l[k]? = some c := ⟨_, List.getElem?_eq_getElem hkl⟩
        obtain ⟨ad, g1, g2, g3⟩ := HR.out wr HB.out.be k c hc
        have hix := ix_C n cap k g1 hlt
        have HS : Hid ((∀ j u, (cnL c)[j]? = some u → wr.cell? ((ad.add (k * 7)).add j) = some u) ∧ ad.block < w.heap.size) := ⟨g3, g2⟩
        obtain ⟨X, hX⟩ : ∃ X, ct c = X := ⟨_, rfl⟩
        have HC : Hid (Calls Try.prog 9 #[.agg (cnL c).toArray] wr fun e w' => e = .returned (.bool X) ∧ Below wr.heap.size wr w') := by rw [← hX]; exact lcounts_any c wr
        have HT : Hid ((l.take (k + 1)).filter ct = if X = true then (l.take k).filter ct ++ [c] else (l.take k).filter ct) := by
          rw [take_snoc hc, List.filter_append, ← hX]
          show _ = _
          by_cases hct : ct c = true
          · rw [if_pos hct, List.filter_cons_of_pos hct, List.filter_nil]
          · rw [if_neg hct, List.filter_cons_of_neg hct, List.filter_nil, List.append_nil]
        clear g1 g2 g3 hc hkl hX
        cases X
        · go_wp2_with (first
            | (refine step_ldat 26 _ rfl rfl (ad.add (k * 7)) (by rfl) (cnL c) _ Try.underlying26 rfl (by kernel_rfl) HS.out.1 ?_)
            | (go_at_call 9; refine HC.out.mono ?_; rintro e w5 ⟨rfl, hb5⟩; have H6 : Hid (Kp w w5 (.slice ao3 n3 cap3) ((l.take k).filter ct)) := HB.out.next hb5; clear hb5))
          go_roundw
          case rel =>
            refine ⟨k + 1, by go_num, by omega, ?_⟩
            rw [HT.out, if_neg (by simp)]
            exact H6
          case measure => simp [intOf]; omega
        · go_upto_region 8 with (first
            | (refine step_ldat 26 _ rfl rfl (ad.add (k * 7)) (by rfl) (cnL c) _ Try.underlying26 rfl (by kernel_rfl) HS.out.1 ?_)
            | (go_at_call 9; refine HC.out.mono ?_; rintro e w5 ⟨rfl, hb5⟩; have H6 : Hid (Kp w w5 (.slice ao3 n3 cap3) ((l.take k).filter ct) ∧ ∀ j u, (cnL c)[j]? = some u → w5.cell? ((ad.add (k * 7)).add j) = some u) := ⟨HB.out.next hb5, fun j u hu => (hb5.cell (by rw [add_block, add_block]; have := HS.out.2; have := HB.out.be.size; omega)).trans (HS.out.1 j u hu)⟩; clear hb5))
          have HLn : Hid ((((l.take k).filter ct).map cnL).length ≤ 60) := by
            show _ ≤ _
            rw [List.length_map]; have := HN3.out; omega
          go_wp2_with (first
            | (refine step_ldat 26 _ rfl rfl (ad.add (k * 7)) (by rfl) (cnL c) _ Try.underlying26 rfl (by kernel_rfl) H6.out.2 ?_)
            | (refine step_bsL (by rfl) 22 26 _ rfl (.agg (cnL c).toArray) (cnL c) (by rfl) (run_bsC c) ?_; intro w6 g6 H7)
            | (at_builtin; refine step_apL tiC rfl _ _ rfl w.heap.size g6 (.slice ao3 n3 cap3) (cnL c) (by rfl) (by rfl) rfl (cnL_one c) w5 _ ?_ ?_ H6.out.1.ow H7.out H6.out.1.be.size ?_; (have := HLn.out; simp only [maxLen]; omega); (have := HLn.out; omega); intro v7 w7 H8))
          go_roundw
          case rel =>
            refine ⟨k + 1, by go_num, by omega, ?_⟩
            rw [HT.out, if_pos (by trivial)]
            exact ⟨by rw [List.map_append]; exact H8.out.1, H6.out.1.be.trans H8.out.2⟩
          case measure => simp [intOf]; omega
      · have HE : Hid (l.take k = l) := List.take_of_length_le (by rw [HN.out]; omega)
        rw [HE.out] at HB HN3
        obtain ⟨l', hl'⟩ : ∃ l', l.filter ct = l' := ⟨_, rfl⟩
        rw [hl'] at HB HN3
        have HT : Hid (th l' = th l ∧ l.length ≤ 1000000 ∧ l'.length ≤ 1000000 ∧ (th l).length = n3) := by
          refine ⟨by rw [← hl']; exact th_th (by rw [HN.out]; omega), by rw [HN.out]; omega, by have := HN3.out; omega, ?_⟩
          rw [th_short (by rw [HN.out]; omega), hl']
          exact HN3.out.1.symm
        obtain ⟨w1, hw1⟩ : ∃ w1, w1 = wr := ⟨_, rfl⟩
        subst hw1
        obtain ⟨A, hA⟩ : ∃ A, mA (mtL l) = A := ⟨_, rfl⟩
        obtain ⟨B, hB⟩ : ∃ B, mB (mtL l) = B := ⟨_, rfl⟩
        obtain ⟨X, hX⟩ : ∃ X, (mtL l).isSome = X := ⟨_, rfl⟩
        have CM1 : Hid (∀ u, Kp w u (.slice ao3 n3 cap3) l' → Calls Try.prog 10 #[.slice ao n cap] u fun e w' => e = .returned (.tuple #[.int .i64 A, .int .i64 B, .bool X]) ∧ Hid (Below u.heap.size u w')) := fun u hu => by
          rw [← hA, ← hB, ← hX]
          exact meet_any _ l u w.heap.size (H0.out.below hu.be (Nat.le_refl _)) hu.be.size HT.out.2.1
        have CM2 : Hid (∀ u, Kp w u (.slice ao3 n3 cap3) l' → Calls Try.prog 10 #[.slice ao3 n3 cap3] u fun e w' => e = .returned (.tuple #[.int .i64 A, .int .i64 B, .bool X]) ∧ Hid (Below u.heap.size u w')) := fun u hu => by
          rw [← hA, ← hB, ← hX, ← mtL_th HT.out.1]
          exact meet_any _ l' u u.heap.size hu.ow.rk (Nat.le_refl _) HT.out.2.2.1
        have CS1 : Hid (∀ u, Kp w u (.slice ao3 n3 cap3) l' → Calls Try.prog 12 #[.slice ao n cap] u fun e w' => ∃ s, e = .returned s ∧ Hid (OR w' u.heap.size 26 7 s ((sv l).map cnL)) ∧ Hid (Below u.heap.size u w')) := fun u hu => survivors_any _ l u w.heap.size (H0.out.below hu.be (Nat.le_refl _)) hu.be.size HT.out.2.1
        have CS2 : Hid (∀ u, Kp w u (.slice ao3 n3 cap3) l' → Calls Try.prog 12 #[.slice ao3 n3 cap3] u fun e w' => ∃ s, e = .returned s ∧ Hid (OR w' u.heap.size 26 7 s ((sv l).map cnL)) ∧ Hid (Below u.heap.size u w')) := fun u hu => by
          rw [← sv_th HT.out.1]
          exact survivors_any _ l' u u.heap.size hu.ow.rk (Nat.le_refl _) HT.out.2.2.1
        have CE1 : Hid (∀ u, Kp w u (.slice ao3 n3 cap3) l' → Calls Try.prog 14 #[.slice ao n cap] u fun e w' => ∃ s, e = .returned s ∧ Hid (OR w' u.heap.size 50 1 s (enR (E l))) ∧ Hid (Below u.heap.size u w')) := fun u hu => ends_any _ l u w.heap.size (H0.out.below hu.be (Nat.le_refl _)) hu.be.size HT.out.2.1
        have CE2 : Hid (∀ u, Kp w u (.slice ao3 n3 cap3) l' → Calls Try.prog 14 #[.slice ao3 n3 cap3] u fun e w' => ∃ s, e = .returned s ∧ Hid (OR w' u.heap.size 50 1 s (enR (E l))) ∧ Hid (Below u.heap.size u w')) := fun u hu => by
          rw [← E_th HT.out.1]
          exact ends_any _ l' u u.heap.size hu.ow.rk (Nat.le_refl _) HT.out.2.2.1
        clear hA hB hX hl' HR HE
        go_wp2_with fail
        refine (CM1.out _ HB.out).mono ?_
        rintro e w2 ⟨rfl, hb2⟩
        have K2 : Hid (Kp w w2 (.slice ao3 n3 cap3) l') := HB.out.next hb2.out
        clear hb2 HB
        go_wp2_with fail
        refine (CM2.out _ K2.out).mono ?_
        rintro e w3 ⟨rfl, hb3⟩
        have K3 : Hid (Kp w w3 (.slice ao3 n3 cap3) l') := K2.out.next hb3.out
        clear hb3 K2
        have hAA : (A == A) = true := by simp
        have hBB : (B == B) = true := by simp
        have hXX : (X == X) = true := by simp
        go_wp2_with fail
        refine (CS1.out _ K3.out).mono ?_
        rintro e w4 ⟨s1, rfl, O4, hb4⟩
        have K4 : Hid (Kp w w4 (.slice ao3 n3 cap3) l') := K3.out.next hb4.out
        clear hb4 K3
        go_wp2_with fail
        refine (CS2.out _ K4.out).mono ?_
        rintro e w5 ⟨s2, rfl, O5, hb5⟩
        have K5 : Hid (Kp w w5 (.slice ao3 n3 cap3) l') := K4.out.next hb5.out
        have CC : Hid (Calls Try.prog 11 #[s1, s2] w5 fun e w' => e = .returned (.bool true) ∧ Below w5.heap.size w5 w') := sameCands_any s1 s2 (sv l) w5 _ _ (O4.out.below hb5.out (Nat.le_refl _)).rk O5.out.rk (Nat.le_trans (sv_le l) (by omega))
        clear hb5 K4
        go_wp2_with fail
        refine CC.out.mono ?_
        rintro e w6 ⟨rfl, hb6⟩
        have K6 : Hid (Kp w w6 (.slice ao3 n3 cap3) l') := K5.out.next hb6
        clear hb6 K5 CC O4 O5
        go_wp2_with fail
        refine (CE1.out _ K6.out).mono ?_
        rintro e w7 ⟨e1, rfl, O7, hb7⟩
        have K7 : Hid (Kp w w7 (.slice ao3 n3 cap3) l') := K6.out.next hb7.out
        clear hb7 K6
        go_wp2_with fail
        refine (CE2.out _ K7.out).mono ?_
        rintro e w8 ⟨e2, rfl, O8, hb8⟩
        have K8 : Hid (Kp w w8 (.slice ao3 n3 cap3) l') := K7.out.next hb8.out
        have CC : Hid (Calls Try.prog 13 #[e1, e2] w8 fun e w' => e = .returned (.bool true) ∧ Below w8.heap.size w8 w') := sameEnds_any e1 e2 (E l) (fun z hz => E_ok hz) w8 _ _ (O7.out.below hb8.out (Nat.le_refl _)).rk O8.out.rk (by rw [E_len]; have := th_len l; omega)
        clear hb8 K7
        go_wp2_with fail
        refine CC.out.mono ?_
        rintro e w9 ⟨rfl, hb9⟩
        have K9 : Hid (Kp w w9 (.slice ao3 n3 cap3) l') := K8.out.next hb9
        clear hb9 K8 CC O7 O8
        go_wp2_with fail
        refine (CE1.out _ K9.out).mono ?_
        rintro e w10 ⟨e3, rfl, O10, hb10⟩
        have K10 : Hid (Kp w w10 (.slice ao3 n3 cap3) l') := K9.out.next hb10.out
        obtain ⟨ao4, cap4, he3⟩ := or_len O10.out
        obtain ⟨n4, hn4⟩ : ∃ n4 : Nat, n4 = 3 * n3 := ⟨_, rfl⟩
        rw [enR_len, E_len, HT.out.2.2.2, ← hn4] at he3
        subst he3
        have hq : (((n4 : Int) == 3 * (n3 : Int))) = true := by simp; omega
        clear hn4 hb10 K9 O10
        go_wp2_with fail
        rw [hQ.out]
        go_ret
        exact ⟨rfl, K10.out.be⟩
end Go.Proofs.Ytepbbaeamlimaaa
