/- cluster: the best by merit. -/
import Derived.Test.YtdlipponajilbaaClFa
namespace Go.Proofs.Ytdlipponajilbaa
open Go Go.RowKit Go.Sort Go.Proofs
set_option linter.unusedVariables false
theorem ix_Ro (n cap k g : Nat) (hk : (k : Int) < n) (w : World) : Sem.run Try.prog (Instr.indexAt 53 (.slice (some ⟨g, 0, none⟩) n cap) (.int .i64 (k : Int))) w = .ok (.pointer (some ⟨g, k * 8, none⟩)) w := by
  rw [ix_R n cap k rfl hk w]
  congr 3
  unfold Addr.add
  split <;> simp_all
/-- all[:m] -/
theorem rsl_take (g n m : Nat) (h : m ≤ n) (u : World) : (Instr.slice 53 (.slice (some ⟨g, 0, none⟩) n n) none (some (.int .i64 (m : Int))) none).run Try.prog u = .ok (.slice (some ⟨g, 0, none⟩) m n) u := by
  have q1 : m ≤ n := h
  simp [Instr.slice, Instr.sliceBounds, Instr.sliceBound, asIntOf, run_underlying Try.underlying53, q1, Addr.add]
theorem set_take {α : Type} {zs : List α} {k : Nat} {x : α} {xs : List α} (h1 : zs.take k = xs.take k) (hk : k < zs.length) (hx : xs[k]? = some x) : (zs.set k x).take (k + 1) = xs.take (k + 1) := by
  rw [take_snoc hx, ← h1]
  rw [List.take_succ_eq_append_getElem (by rw [List.length_set]; exact hk)]
  rw [List.getElem_set_self, List.take_set_of_le (Nat.le_refl _)]
/-- what is in the row as far as it is filled -/
def Fil (l : List Cn) (k : Nat) (zs : List Rtd) : Prop := zs.length = l.length ∧ zs.take k = (l.map rt).take k
theorem Fil.step {l : List Cn} {k : Nat} {zs : List Rtd} (h : Fil l k zs) {c : Cn} (hc : l[k]? = some c) : Fil l (k + 1) (zs.set k (rt c)) := by
  have hk : k < l.length := (List.getElem?_eq_some_iff.1 hc).1
  exact ⟨by rw [List.length_set]; exact h.1, set_take h.2 (by rw [h.1]; exact hk) (by rw [List.getElem?_map, hc]; rfl)⟩
theorem Fil.all {l : List Cn} {zs : List Rtd} (h : Fil l l.length zs) : zs = l.map rt := by
  have := h.2
  rw [List.take_of_length_le (by rw [h.1]; exact Nat.le_refl _), List.take_of_length_le (by rw [List.length_map]; exact Nat.le_refl _)] at this
  exact this
set_option maxRecDepth 20000 in
set_option maxHeartbeats 2000000 in
theorem bestByMerit_any (v : Value) (l : List Cn) (most : Nat) (w : World) (N : Nat) (h : Rk N w 7 v (l.map cnL)) (hN : N ≤ w.heap.size) (hl : l.length ≤ 1000) (hmo : most ≤ 1000) (ok : ∀ c ∈ l, okC c) : Calls Try.prog 18 #[v, .int .i64 (most : Int)] w fun e w' => ∃ u, e = .returned u ∧ Hid (OR w' w.heap.size 27 7 u (((St.st ltc l).take most).map cnL)) ∧ Hid (Below w.heap.size w w') := by
  obtain ⟨ao, cap, hv, hcap, hr⟩ := cands_read h
  have HR : Hid (∀ w', Below w.heap.size w w' → ∀ (i : Nat) c, l[i]? = some c → ∃ ad, ao = some ad ∧ ∀ j u, (cnL c)[j]? = some u → w'.cell? ((ad.add (i * 7)).add j) = some u) := fun w' hb i c hc => by
    obtain ⟨ad, h1, h3, h2⟩ := hr w' (below_cells hb hN) i c hc
    exact ⟨ad, h1, h2⟩
  obtain ⟨n, hn⟩ : ∃ n, l.length = n := ⟨_, rfl⟩
  have HN : Hid (l.length = n ∧ n ≤ 1000) := ⟨hn, by omega⟩
  rw [hn] at hv hl
  subst hv
  have hl2 : (n : Int) ≤ 1000 := by omega
  have HO : Hid (∀ c ∈ l, okC c) := ok
  obtain ⟨W1, hmk, ho1, hb1⟩ := zero_of tiR (rtL ⟨zCn, 0⟩) (by kernel_rfl) n (by omega) (by omega) rfl w
  obtain ⟨g, hg⟩ : ∃ g, g = w.heap.size := ⟨_, rfl⟩
  have Hg : Hid (g = w.heap.size) := hg
  rw [← hg] at hmk
  have H1 : Hid (OR W1 w.heap.size 55 8 (.slice (some ⟨g, 0, none⟩) n n) ((List.replicate n (⟨zCn, 0⟩ : Rtd)).map rtL) ∧ Below w.heap.size w W1) := by
    rw [List.map_replicate]
    refine ⟨?_, hb1⟩
    rw [hg]; exact ho1
  obtain ⟨m, hm⟩ : ∃ m : Nat, m = min n most := ⟨_, rfl⟩
  have hmin : min (n : Int) (most : Int) = (m : Int) := by omega
  have HMs : Hid (m = min n most ∧ m ≤ n) := ⟨hm, by omega⟩
  have hsl := rsl_take g n m (by omega)
  clear h hr hn hcap hl hN ok ho1 hb1 hg hmo hm
  go_enter Try.func18, Try.ntmps18
  refine post_hid fun Q hQ => ?_
  go_wp2_with fail
  go_loopw [6, 7, 16] (fun _ _ i wr => ∃ (k : Nat), i = .int .i64 k ∧ (k : Int) ≤ n ∧ Hid ((∃ zs : List Rtd, Fil l k zs ∧ OR wr w.heap.size 55 8 (.slice (some ⟨g, 0, none⟩) n n) (zs.map rtL)) ∧ Below w.heap.size w wr)) (fun _ _ i _ => n - (intOf i).toNat)
  case atStart => exact ⟨0, rfl, by omega, ⟨⟨List.replicate n ⟨zCn, 0⟩, ⟨by rw [List.length_replicate, HN.out.1], rfl⟩, H1.out.1⟩, H1.out.2⟩⟩
  case round =>
    obtain ⟨k, rfl, hk, HB⟩ := hrel
    clear hmk H1
    by_cases hlt : (k : Int) < n
    · have hkl : k < l.length := by rw [HN.out.1]; omega
      obtain ⟨c, hc⟩ : ∃ c, l[k]? = some c := ⟨_, List.getElem?_eq_getElem hkl⟩
      obtain ⟨zs, hz1, hz2⟩ := HB.out.1
      obtain ⟨ad, g1, g3⟩ := HR.out wr HB.out.2 k c hc
      have hix := ix_C n cap k g1 hlt
      have hix2 := ix_Ro n n k g hlt
      have HS : Hid (∀ j u, (cnL c)[j]? = some u → wr.cell? ((ad.add (k * 7)).add j) = some u) := g3
      have HK : Hid (l[k]? = some c ∧ Fil l k zs ∧ OR wr w.heap.size 55 8 (.slice (some ⟨g, 0, none⟩) n n) (zs.map rtL)) := ⟨hc, hz1, hz2⟩
      clear g1 g3 hc hkl hz1 hz2
      go_upto_region 5 with (first
        | (refine step_ldat 27 _ rfl rfl (ad.add (k * 7)) (by rfl) (cnL c) _ Try.underlying27 rfl (by kernel_rfl) HS.out ?_)
        | (refine step_alL (by rfl) 27 rfl (cnL zCn).toArray (fun u => by kernel_rfl) ?_; intro w3 g3 H3)
        | (refine step_stL (by rfl) _ _ rfl g3 (cnL c).toArray (by rfl) (by rfl) (cnL zCn).toArray (by kernel_rfl) (by kernel_rfl) (by kernel_rfl) H3.out.bk ?_; intro w4 H4))
      have H5 : Hid (OR w4 w.heap.size 55 8 (.slice (some ⟨g, 0, none⟩) n n) (zs.map rtL) ∧ Below w.heap.size w w4 ∧ Bk g3 w4 (cnL c).toArray 27) := by
        have hb := H4.out.below H3.out.be H3.out.be.size (Nat.le_of_eq H3.out.at'.symm)
        exact ⟨HK.out.2.2.below hb (Nat.le_refl _), below_thru HB.out.2 hb, H4.out.bk⟩
      have HSc : Hid (∀ j u, (cnL c)[j]? = some u → w4.cell? ((⟨g3, 0, none⟩ : Addr).add j) = some u) := cells_of (l := cnL c) H5.out.2.2
      have HC : Hid (Calls Try.prog 38 #[.agg (cnL c).toArray] w4 fun e w' => e = .returned (.agg (rtL (rt c)).toArray) ∧ Below w4.heap.size w4 w') := rate_any c w4 (HO.out c (List.mem_of_getElem? HK.out.1))
      have HLz : Hid (n = (zs.map rtL).length ∧ k < (zs.map rtL).length) := by
        have h1 := HK.out.2.1.1
        have h2 := HN.out.1
        rw [List.length_map]
        exact ⟨by omega, by omega⟩
      clear H3 H4 HS hix HB
      go_wp2_with (first
        | (refine step_ldat 27 _ rfl rfl ⟨g3, 0, none⟩ (by rfl) (cnL c) _ Try.underlying27 rfl (by kernel_rfl) HSc.out ?_)
        | (go_at_call 38; refine HC.out.mono ?_; rintro e w5 ⟨rfl, hb5⟩; have H6 : Hid (OR w5 w.heap.size 55 8 (.slice (some ⟨g, 0, none⟩) n n) (zs.map rtL) ∧ Below w.heap.size w w5) := ⟨H5.out.1.below hb5 (Nat.le_refl _), below_thru H5.out.2.1 hb5⟩; clear hb5)
        | (refine step_stK (by rfl) _ _ rfl w.heap.size g n n 8 k (rtL (rt c)) (by rfl) (by rfl) rfl (rtL_one _) (by kernel_rfl) (zs.map rtL) HLz.out.1 HLz.out.2 H6.out.1 ?_; intro w6 h7; have H7 : Hid (OR w6 w.heap.size 55 8 (.slice (some ⟨g, 0, none⟩) n n) ((zs.set k (rt c)).map rtL) ∧ Below w.heap.size w w6) := ⟨by rw [List.map_set]; exact h7.out.1, H6.out.2.trans ⟨h7.out.2.1.os, h7.out.2.1.tape, h7.out.2.1.output, h7.out.2.1.size, fun j hj => h7.out.2.1.block j (by have := H6.out.2.size; omega) (fun e => by injection e with e; have := Hg.out; omega)⟩⟩; clear h7))
      go_roundw
      case rel => exact ⟨k + 1, by go_num, by omega, ⟨⟨_, HK.out.2.1.step HK.out.1, H7.out.1⟩, H7.out.2⟩⟩
      case measure => simp [intOf]; omega
    · have hkn : k = n := by omega
      subst hkn
      have H2 : Hid (OR wr w.heap.size 55 8 (.slice (some ⟨g, 0, none⟩) k k) ((l.map rt).map rtL) ∧ Below w.heap.size w wr) := by
        obtain ⟨⟨zs, hz1, hz2⟩, hb⟩ := HB.out
        have h1 := HN.out.1
        rw [← h1] at hz1
        rw [← hz1.all]
        exact ⟨hz2, hb⟩
      clear HB
      have HC : Hid (Calls Try.prog 39 #[.slice (some ⟨g, 0, none⟩) k k, .func (.func 40) #[] #[]] wr fun e w' => e = .returned (.tuple #[]) ∧ Hid (OR w' w.heap.size 55 8 (.slice (some ⟨g, 0, none⟩) k k) (((St.st ltc l).map rt).map rtL) ∧ wr.grownBy w' (some g))) := by
        haveI : Inhabited Rtd := ⟨⟨zCn, 0⟩⟩
        have hH := H2.out.1.holdsK (fun _ => rfl) (by decide)
        have hgl : g < wr.heap.size := by
          rcases Nat.lt_or_ge g wr.heap.size with h' | h'
          · exact h'
          · rcases H2.out.1.row.2 with ⟨e0, _⟩ | ⟨g', cap', cur, e0, hb, hgg, _⟩
            · injection e0 with e0; cases e0
            · injection e0 with e1 _ _
              injection e1 with e1
              injection e1 with e1
              subst e1
              rw [Array.getElem?_eq_none h'] at hgg; cases hgg
        have R : Proofs.RowK rtL 8 wr g 0 (l.map rt).toArray := ⟨fun _ => rfl, rtL_one, hH, hgl⟩
        have hlen : (l.map rt).length = k := by rw [List.length_map, HN.out.1]
        refine (sortStable_any R cfR ltR_swo cmpRt_any (l.map rt) k k hlen (by rw [List.size_toArray, hlen]) (by have := HN.out.2; omega) wr (Proofs.SWK.start hH)).mono ?_
        rintro e w' ⟨rfl, h5⟩
        refine ⟨rfl, ?_⟩
        obtain ⟨q, os, rfl⟩ := h5.out
        have e1 : St.st (Proofs.ltOf cfR) (l.map rt) = (St.st ltc l).map rt := st_rt l
        rw [e1]
        have hb := H2.out.1.putRowK (q := q) (ys := (St.st ltc l).map rt) (fun _ => rfl) (by decide) (by rw [List.length_map, List.length_map, St.st_len]) os
        exact hb
      go_wp2_with (go_at_call 39; refine HC.out.mono ?_; rintro e w2 ⟨rfl, h2⟩)
      have H3 : Hid (OR w2 w.heap.size 55 8 (.slice (some ⟨g, 0, none⟩) k k) (((St.st ltc l).map rt).map rtL) ∧ Below w.heap.size w w2 ∧ w.heap.size ≤ w2.heap.size) := by
        have h3 := h2.out.2
        have hb := H2.out.2.trans ⟨h3.os, h3.tape, h3.output, h3.size, fun j hj => h3.block j (by have := H2.out.2.size; omega) (fun e => by injection e with e; have := Hg.out; omega)⟩
        exact ⟨h2.out.1, hb, hb.size⟩
      clear h2 HC H2
      obtain ⟨X, hX⟩ : ∃ X, St.st ltc l = X := ⟨_, rfl⟩
      have HX : Hid (St.st ltc l = X ∧ X.length = k) := ⟨hX, by rw [← hX, St.st_len]; exact HN.out.1⟩
      rw [hX] at H3
      clear hX
      have HRd : Hid (∀ w', Below w2.heap.size w2 w' → ∀ (i : Nat) c, X[i]? = some c → ∀ j u, (rtL (rt c))[j]? = some u → w'.cell? ((⟨g, i * 8, none⟩ : Addr).add j) = some u) := fun w' hb i c hc j u hu => by
        have hi : i < X.length := (List.getElem?_eq_some_iff.1 hc).1
        have h1 := (H3.out.1.below hb (Nat.le_refl _)).at i (by rw [List.length_map, List.length_map]; exact hi) j u (by
          rw [getD_map' rtL (X.map rt) i (by rw [List.length_map]; exact hi), List.getElem_map]
          rw [(List.getElem?_eq_some_iff.1 hc).2]
          exact hu)
        exact h1
      have HXt : Hid (m ≤ X.length ∧ X.take most = X.take m) := by
        have h1 := HX.out.2
        have h2 := HMs.out.1
        refine ⟨by omega, ?_⟩
        rw [h2]
        by_cases h3 : k ≤ most
        · rw [Nat.min_eq_left h3, List.take_of_length_le (by omega), List.take_of_length_le (by omega)]
        · rw [Nat.min_eq_right (by omega)]
      have hm2 : (m : Int) ≤ 1000 := by have := HMs.out.2; omega
      have hmk2 : (m : Int) ≤ k := by have := HMs.out.2; omega
      go_wp2_with fail
      go_loopw [8, 10, 36] (fun v8 _ i wr => ∃ (q : Nat), i = .int .i64 q ∧ (q : Int) ≤ m ∧ Hid (OR wr w2.heap.size 27 7 v8 ((X.take q).map cnL) ∧ Below w2.heap.size w2 wr)) (fun _ _ i _ => m - (intOf i).toNat)
      case atStart => exact ⟨0, rfl, by omega, ⟨OR.nil _ _ _ _, Below.refl _ _⟩⟩
      case round =>
        obtain ⟨q, rfl, hq, HB⟩ := hrel
        obtain ⟨v8, hv8⟩ : ∃ v8, v8 = u8 := ⟨_, rfl⟩
        subst hv8
        by_cases hlq : (q : Int) < m
        · obtain ⟨c, hc⟩ : ∃ c, X[q]? = some c := ⟨_, List.getElem?_eq_getElem (by have := HXt.out.1; omega)⟩
          have hix2 := ix_Ro m k q g hlq
          have HS : Hid (∀ j u, (rtL (rt c))[j]? = some u → wr.cell? ((⟨g, q * 8, none⟩ : Addr).add j) = some u) := HRd.out wr HB.out.2 q c hc
          have HK : Hid (X[q]? = some c) := hc
          have HLn : Hid (((X.take q).map cnL).length ≤ 1000) := by
            show _ ≤ _
            rw [List.length_map, List.length_take]
            have := HXt.out.1
            omega
          clear hc
          go_upto_region 12 with (first
            | (refine step_ldat 55 _ rfl rfl ⟨g, q * 8, none⟩ (by rfl) (rtL (rt c)) _ Try.underlying55 rfl (by kernel_rfl) HS.out ?_)
            | (refine step_alL (by rfl) 55 rfl (rtL ⟨zCn, 0⟩).toArray (fun u => by kernel_rfl) ?_; intro w3 g3 H4)
            | (refine step_stL (by rfl) _ _ rfl g3 (rtL (rt c)).toArray (by rfl) (by rfl) (rtL ⟨zCn, 0⟩).toArray (by kernel_rfl) (by kernel_rfl) (by kernel_rfl) H4.out.bk ?_; intro w4 H5))
          have H6 : Hid (OR w4 w2.heap.size 27 7 v8 ((X.take q).map cnL) ∧ Below w2.heap.size w2 w4 ∧ Bk g3 w4 (rtL (rt c)).toArray 55) := by
            have hb := H5.out.below H4.out.be H4.out.be.size (Nat.le_of_eq H4.out.at'.symm)
            exact ⟨HB.out.1.below hb (Nat.le_refl _), below_thru HB.out.2 hb, H5.out.bk⟩
          have HSc : Hid (∀ j u, (cnL c)[j]? = some u → w4.cell? ((⟨g3, 0, none⟩ : Addr).add j) = some u) := fun j u hu => by
            refine cells_of (l := rtL (rt c)) H6.out.2.2 j u ?_
            have hj : j < (cnL c).length := (List.getElem?_eq_some_iff.1 hu).1
            show (cnL c ++ [.int .i64 (mer c)])[j]? = some u
            rw [List.getElem?_append_left hj]; exact hu
          clear H4 H5 HS hix2 HB
          go_wp2_with (first
            | (refine step_ldat 27 _ rfl rfl ⟨g3, 0, none⟩ (by rfl) (cnL c) _ Try.underlying27 rfl (by kernel_rfl) HSc.out ?_)
            | (refine step_bsL (by rfl) 22 27 _ rfl (.agg (cnL c).toArray) (cnL c) (by rfl) (run_bsC c) ?_; intro w6 g6 H7)
            | (at_builtin; refine step_apL tiC rfl _ _ rfl w2.heap.size g6 v8 (cnL c) (by rfl) (by rfl) rfl (cnL_one c) w4 _ ?_ ?_ H6.out.1 H7.out H6.out.2.1.size ?_; (have := HLn.out; simp only [maxLen]; omega); (have := HLn.out; omega); intro v7 w7 H8))
          go_roundw
          case rel =>
            refine ⟨q + 1, by go_num, by omega, ?_, H6.out.2.1.trans H8.out.2⟩
            rw [take_snoc HK.out, List.map_append]
            exact H8.out.1
          case measure => simp [intOf]; omega
        · have hqm : q = m := by omega
          subst hqm
          go_wp2_with fail
          rw [hQ.out]
          go_ret
          refine ⟨_, rfl, ?_, below_thru H3.out.2.1 HB.out.2⟩
          rw [HX.out.1, HXt.out.2]
          exact HB.out.1.mono H3.out.2.2
end Go.Proofs.Ytdlipponajilbaa
