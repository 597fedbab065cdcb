/- choose: those that count, of the program and of the reference. -/
import Derived.Test.YtepbbaeamlimaabUB
namespace Go.Proofs.Ytepbbaeamlimaab
open Go Go.RowKit Go.Sort Ch
set_option linter.unusedVariables false
theorem run_bs0 (u : World) : (Instr.buildSlice 22 0 #[]).run Try.prog u = .ok (.slice (some ⟨u.heap.size, 0, none⟩) 0 0) (u.alloc (.cells #[] 25)) := by
  kernel_rfl
theorem take_snoc {α : Type} {l : List α} {k : Nat} {c : α} (h : l[k]? = some c) : l.take (k + 1) = l.take k ++ [c] := by
  have hl : k < l.length := by
    rcases Nat.lt_or_ge k l.length with h1 | h1
    · exact h1
    · rw [List.getElem?_eq_none h1] at h; cases h
  rw [List.take_succ_eq_append_getElem hl]
  rw [List.getElem?_eq_getElem hl] at h
  rw [Option.some.inj h]
set_option maxRecDepth 20000 in
set_option maxHeartbeats 1000000 in
theorem counting_any (v : Value) (l : List Cn) (w : World) (N : Nat) (h : Rk N w 7 v (l.map cnL)) (hN : N ≤ w.heap.size) (hl : l.length ≤ 1000000) : Calls Try.prog 13 #[v] w fun e w' => ∃ u, e = .returned u ∧ Hid (OR w' w.heap.size 25 7 u ((th l).map cnL)) ∧ Hid (Below w.heap.size w w') := by
  obtain ⟨ao, cap, hv, hcap, hr⟩ := cands_read h
  have HR : Hid (∀ w', Below w.heap.size w w' → ∀ (i : Nat) c, l[i]? = some c → ∃ ad, ao = some ad ∧ ∀ j u, (cnL c)[j]? = some u → w'.cell? ((ad.add (i * 7)).add j) = some u) := fun w' hb i c hc => by
    obtain ⟨ad, h1, _, h2⟩ := hr w' (below_cells hb hN) i c hc
    exact ⟨ad, h1, h2⟩
  obtain ⟨n, hn⟩ : ∃ n, l.length = n := ⟨_, rfl⟩
  have HN : Hid (l.length = n) := hn
  rw [hn] at hv hl
  subst hv
  have hl2 : (n : Int) ≤ 1000000 := by omega
  clear h hr hn hcap hl hN
  go_enter Try.func13, Try.ntmps13
  refine post_hid fun Q hQ => ?_
  go_wp2_with fail
  go_loopw [3, 8] (fun v3 i wr => ∃ (k : Nat), i = .int .i64 k ∧ (k : Int) ≤ n ∧ Hid (OR wr w.heap.size 25 7 v3 ((th (l.take k)).map cnL) ∧ Below w.heap.size w wr)) (fun _ i _ => n - (intOf i).toNat)
  case atStart => exact ⟨0, rfl, by omega, ⟨OR.nil _ _ _ _, Below.refl _ _⟩⟩
  case round =>
    obtain ⟨k, rfl, hk, HB⟩ := hrel
    obtain ⟨ao3, cap3, hv3⟩ := or_len HB.out.1
    obtain ⟨n3, hn3⟩ : ∃ n3 : Nat, n3 = ((th (l.take k)).map cnL).length := ⟨_, rfl⟩
    rw [← hn3] at hv3
    subst hv3
    have HN3 : Hid (n3 = (th (l.take k)).length ∧ n3 ≤ 64) := by rw [List.length_map] at hn3; have := th_len (l.take k); exact ⟨hn3, by omega⟩
    have hn64 : (n3 : Int) ≤ 64 := by have := HN3.out.2; omega
    clear hn3
    by_cases hlt : (k : Int) < n
    · have hkl : k < l.length := by rw [HN.out]; omega
      obtain ⟨c, hc⟩ : ∃ c, l[k]? = some c := ⟨_, List.getElem?_eq_getElem hkl⟩
      obtain ⟨ad, g1, g3⟩ := HR.out wr HB.out.2 k c hc
      have hix := ix_C n cap k g1 hlt
      have HS : Hid (∀ j u, (cnL c)[j]? = some u → wr.cell? ((ad.add (k * 7)).add j) = some u) := g3
      have HK : Hid (l[k]? = some c) := hc
      clear g1 g3 hc hkl
      go_upto_region 5 with (first
        | (refine step_ldat 25 _ rfl rfl (ad.add (k * 7)) (by rfl) (cnL c) _ Try.underlying25 rfl (by kernel_rfl) HS.out ?_)
        | (refine step_alL (by rfl) 25 rfl (cnL zCn).toArray (fun u => by kernel_rfl) ?_; intro w3 g H3)
        | (refine step_stL (by rfl) _ _ rfl g (cnL c).toArray (by rfl) (by rfl) (cnL zCn).toArray (by kernel_rfl) (by kernel_rfl) (by kernel_rfl) H3.out.bk ?_; intro w4 H4))
      have H5 : Hid (OR w4 w.heap.size 25 7 (.slice ao3 n3 cap3) ((th (l.take k)).map cnL) ∧ Below w.heap.size w w4 ∧ Bk g w4 (cnL c).toArray 25) := by
        have hb := H4.out.below H3.out.be H3.out.be.size (Nat.le_of_eq H3.out.at'.symm)
        exact ⟨HB.out.1.below hb (Nat.le_refl _), below_thru HB.out.2 hb, H4.out.bk⟩
      clear H3 H4 HS HB
      by_cases hf : (n3 : Int) = 64
      · have HE : Hid (th l = th (l.take k)) := th_full (by have := HN3.out.1; omega)
        go_wp2_with fail
        rw [hQ.out]
        go_ret
        refine ⟨_, rfl, ?_, H5.out.2.1⟩
        rw [HE.out]
        exact H5.out.1
      · have HSc : Hid (∀ j u, (cnL c)[j]? = some u → w4.cell? ((⟨g, 0, none⟩ : Addr).add j) = some u) := cells_of (l := cnL c) H5.out.2.2
        obtain ⟨X, hX⟩ : ∃ X, ct c = X := ⟨_, rfl⟩
        have HC : Hid (Calls Try.prog 23 #[.agg (cnL c).toArray] w4 fun e w' => e = .returned (.bool X) ∧ Below w4.heap.size w4 w') := by rw [← hX]; exact counts_any c w4
        have HT : Hid (th (l.take (k + 1)) = if X = true then th (l.take k) ++ [c] else th (l.take k)) := by rw [← hX]; exact th_step HK.out (by have := HN3.out; omega)
        clear hX
        cases X
        · go_wp2_with (first
            | (refine step_ldat 25 _ rfl rfl ⟨g, 0, none⟩ (by rfl) (cnL c) _ Try.underlying25 rfl (by kernel_rfl) HSc.out ?_)
            | (go_at_call 23; refine HC.out.mono ?_; rintro e w5 ⟨rfl, hb5⟩; have H6 : Hid (OR w5 w.heap.size 25 7 (.slice ao3 n3 cap3) ((th (l.take k)).map cnL) ∧ Below w.heap.size w w5) := ⟨H5.out.1.below hb5 (Nat.le_refl _), below_thru H5.out.2.1 hb5⟩; clear hb5))
          go_roundw
          case rel =>
            refine ⟨k + 1, by go_num, by omega, ?_, H6.out.2⟩
            rw [HT.out, if_neg (by simp)]
            exact H6.out.1
          case measure => simp [intOf]; omega
        · go_upto_region 7 with (first
            | (refine step_ldat 25 _ rfl rfl ⟨g, 0, none⟩ (by rfl) (cnL c) _ Try.underlying25 rfl (by kernel_rfl) HSc.out ?_)
            | (go_at_call 23; refine HC.out.mono ?_; rintro e w5 ⟨rfl, hb5⟩; have H6 : Hid (OR w5 w.heap.size 25 7 (.slice ao3 n3 cap3) ((th (l.take k)).map cnL) ∧ Below w.heap.size w w5 ∧ Bk g w5 (cnL c).toArray 25) := ⟨H5.out.1.below hb5 (Nat.le_refl _), below_thru H5.out.2.1 hb5, H5.out.2.2.kept (hb5.block _ H5.out.2.2.lt)⟩; clear hb5))
          have HSd : Hid (∀ j u, (cnL c)[j]? = some u → w5.cell? ((⟨g, 0, none⟩ : Addr).add j) = some u) := cells_of (l := cnL c) H6.out.2.2
          have HLn : Hid (((th (l.take k)).map cnL).length ≤ 64) := by
            show _ ≤ _
            rw [List.length_map]; exact th_len _
          go_wp2_with (first
            | (refine step_ldat 25 _ rfl rfl ⟨g, 0, none⟩ (by rfl) (cnL c) _ Try.underlying25 rfl (by kernel_rfl) HSd.out ?_)
            | (refine step_bsL (by rfl) 22 25 _ rfl (.agg (cnL c).toArray) (cnL c) (by rfl) (run_bsC c) ?_; intro w6 g6 H7)
            | (at_builtin; refine step_apL tiC rfl _ _ rfl w.heap.size g6 (.slice ao3 n3 cap3) (cnL c) (by rfl) (by rfl) rfl (cnL_one c) w5 _ ?_ ?_ H6.out.1 H7.out H6.out.2.1.size ?_; (have := HLn.out; simp only [maxLen]; omega); (have := HLn.out; omega); intro v7 w7 H8))
          go_roundw
          case rel =>
            refine ⟨k + 1, by go_num, by omega, ?_, H6.out.2.1.trans H8.out.2⟩
            rw [HT.out, if_pos (by trivial), List.map_append]
            exact H8.out.1
          case measure => simp [intOf]; omega
    · have HE : Hid (l.take k = l) := List.take_of_length_le (by rw [HN.out]; omega)
      go_wp2_with fail
      rw [hQ.out]
      go_ret
      have h1 := HB.out.1
      rw [HE.out] at h1
      exact ⟨_, rfl, h1, HB.out.2⟩
end Go.Proofs.Ytepbbaeamlimaab
