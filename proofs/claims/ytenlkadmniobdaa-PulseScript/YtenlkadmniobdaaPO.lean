/- What Median of the reference returns. -/
import Derived.Test.YtenlkadmniobdaaPN
import Derived.Test.YtenlkadmniobdaaPD
namespace Go.Proofs.Ytenlkadmniobdaa
open Go.RowKit
theorem Sl.at {N : Nat} {w : World} {v : Value} {xs : List Int} (h : Sl N w v xs) (k : Nat) (hk : k < xs.length) : ∃ ad cap, v = .slice (some ad) xs.length cap ∧ w.cell? (ad.add k) = some (.int .i64 (xs.getD k 0)) := by
  obtain ⟨ao, cap, rfl, h1, h2, h3, h4⟩ := h
  obtain ⟨ad, rfl, k1, k2⟩ := h2 (by omega)
  exact ⟨ad, cap, rfl, k2 k hk⟩
theorem sl_one (w : World) (x : Int) (hx : -4294967296 ≤ x ∧ x ≤ 4294967296) : Sl (w.heap.size + 1) (w.alloc (.cells #[.int .i64 x] 25)) (.slice (some ⟨w.heap.size, 0, none⟩) 1 1) [x] := by
  refine ⟨_, _, rfl, Nat.le_refl _, fun _ => ⟨_, rfl, Nat.lt_succ_self _, fun k hk => ?_⟩, fun y hy => ?_, by simp⟩
  · have h1 : k < 1 := hk
    have h0 : k = 0 := by omega
    subst h0
    rw [add_own]
    simp
  · have : y = x := by simpa using hy
    omega
theorem len_run (ao : Option Addr) (n cap : Nat) (u : World) : (Builtin.len_ #[28] 3 #[.slice ao n cap]).run Try.prog u = .ok (.int .i64 (n : Int)) u := by
  simp [Builtin.len_, run_underlying Try.underlying28, goInt]
theorem idx_at (ad : Addr) (n cap k : Nat) (u : World) (h : k < n) : (Instr.indexAt 28 (.slice (some ad) n cap) (.int .i64 (k : Int))).run Try.prog u = .ok (.pointer (some (ad.add k))) u := by
  simp [go_sem, h]
theorem add_zero4 (ad : Addr) : ad.add 0 = ad := by unfold Addr.add; rw [if_pos rfl]
theorem tdiv_bd (s n : Int) (h0 : -300000000000 ≤ s) (h1 : s ≤ 300000000000) : -1000000000000 ≤ s.tdiv n * n ∧ s.tdiv n * n ≤ 1000000000000 := by
  have h := Int.tdiv_mul_add_tmod s n
  have h2 : (s.tmod n).natAbs ≤ s.natAbs := by rw [Int.natAbs_tmod]; exact Nat.mod_le _ _
  generalize s.tdiv n * n = a at *
  generalize s.tmod n = b at *
  omega
theorem Sl.cell {N : Nat} {w : World} {ad : Addr} {n cap : Nat} {xs : List Int} (h : Sl N w (.slice (some ad) n cap) xs) (k : Nat) (hk : k < xs.length) : w.cell? (ad.add k) = some (.int .i64 (xs.getD k 0)) := by
  obtain ⟨ad', cap', hv, hc⟩ := h.at k hk
  injection hv with hv _ _
  injection hv with hv
  rw [hv]; exact hc
theorem cl_mm (y : Int) : max (-4294967296) (min y 4294967296) = Fx.cl 4294967296 y := rfl
set_option maxRecDepth 20000 in
set_option maxHeartbeats 4000000 in
theorem rmedian_any (v : Value) (xs : List Int) (N : Nat) (w : World) (h : Sl N w v xs) (hN : N ≤ w.heap.size) (hl : (xs.length : Int) ≤ 9000000000000000000) :
    Calls Try.prog 13 #[v] w fun e w' => e = .returned (.tuple #[.int .i64 (Pu.mdM xs), .int .i64 (Pu.mdW xs)]) ∧ Below w.heap.size w w' := by
  have HS : Hid (Sl N w v xs ∧ N ≤ w.heap.size) := ⟨h, hN⟩
  obtain ⟨ao, cap, rfl, _⟩ := h
  clear hN
  obtain ⟨m, hm⟩ : ∃ m, m = min 64 xs.length := ⟨_, rfl⟩
  have HM : Hid (m = min 64 xs.length) := hm
  have m1 : (m : Int) ≤ 64 := by omega
  clear hm
  go_enter Try.func13, Try.ntmps13
  go_wp2
  go_loopw [4, 5] (fun s i wr => ∃ (k : Nat) (zs : List Int), k ≤ m ∧ i = .int .i64 k ∧ Hid (zs.length = k ∧ zs = (Pu.cls xs).take k ∧ Oi wr w.heap.size s (Pu.srt zs) ∧ Below w.heap.size w wr)) (fun _ i _ => m - (intOf i).toNat)
  case atStart => exact ⟨0, [], Nat.zero_le _, rfl, ⟨rfl, rfl, by rw [show Pu.srt [] = [] from List.length_eq_zero_iff.1 (Pu.srt_len [])]; exact Oi.nil _ _, Below.refl _ _⟩⟩
  case round =>
    obtain ⟨k, zs, hk, rfl, HK⟩ := hrel
    obtain ⟨ys, hys⟩ : ∃ ys, ys = Pu.srt zs := ⟨_, rfl⟩
    have HK2 : Hid (zs.length = k ∧ zs = (Pu.cls xs).take k ∧ Oi wr w.heap.size u4 ys ∧ Below w.heap.size w wr ∧ ys = Pu.srt zs ∧ ys.length = k) := ⟨HK.out.1, HK.out.2.1, by rw [hys]; exact HK.out.2.2.1, HK.out.2.2.2, hys, by rw [hys, Pu.srt_len]; exact HK.out.1⟩
    clear HK hys
    obtain ⟨sao, scap, hsv, _⟩ := HK2.out.2.2.1.sl
    rw [HK2.out.2.2.2.2.2] at hsv
    subst hsv
    have kb : (k : Int) ≤ 64 := by omega
    obtain ⟨wa, hwa⟩ : ∃ wa, wa = wr := ⟨_, rfl⟩
    subst hwa
    by_cases hlt : k < m
    · have hkx : k < xs.length := by have := HM.out; omega
      obtain ⟨ad, cp, hv, hcell0⟩ := (HS.out.1.below HK2.out.2.2.2.1 HS.out.2).at k hkx
      injection hv with hv1 _ hv3
      subst hv1
      subst hv3
      have k64 : (k : Int) < 64 := by omega
      have kxi : (k : Int) < xs.length := by omega
      obtain ⟨y, hy⟩ : ∃ y, y = xs.getD k 0 := ⟨_, rfl⟩
      rw [← hy] at hcell0
      have HY : Hid (y = xs.getD k 0) := hy
      obtain ⟨x, hx⟩ : ∃ x, x = Fx.cl 4294967296 y := ⟨_, rfl⟩
      have hmm : max (-4294967296) (min y 4294967296) = x := by rw [hx]; rfl
      have HX : Hid (x = Fx.cl 4294967296 y) := hx
      have hxb := Fx.cl_bd (m := 4294967296) (by decide) y
      rw [← hx] at hxb
      clear hy hx
      go_wp2
      go_loop [7] (fun t => ∃ j : Nat, j ≤ k ∧ t = .int .i64 j ∧ Hid (∀ i, i < j → ys.getD i 0 ≤ x)) (fun t => k - (intOf t).toNat)
      case atStart => exact ⟨0, Nat.zero_le _, rfl, fun i hi => absurd hi (Nat.not_lt_zero _)⟩
      case round =>
        obtain ⟨j, hj, rfl, HJ⟩ := hrel
        have jk : (j : Int) ≤ k := by omega
        by_cases hjk : j < k
        · obtain ⟨sad, scp, hv, hcell1⟩ := HK2.out.2.2.1.sl.at j (by rw [HK2.out.2.2.2.2.2]; exact hjk)
          injection hv with hv1 _ hv3
          subst hv1
          subst hv3
          have jki : (j : Int) < k := by omega
          obtain ⟨z, hz⟩ : ∃ z, z = ys.getD j 0 := ⟨_, rfl⟩
          rw [← hz] at hcell1
          have HZ : Hid (z = ys.getD j 0) := hz
          clear hz
          by_cases hle : z ≤ x
          · go_wp2
            go_round
            case rel =>
              refine ⟨j + 1, by omega, by go_num, fun i hi => ?_⟩
              rcases Nat.lt_or_ge i j with h | h
              · exact HJ.out i h
              · have h9 := HZ.out
                rw [List.getD_eq_getElem?_getD] at h9
                rw [show i = j by omega, ← h9]
                exact hle
            case measure => simp [intOf]; omega
          · have HE : Hid (j < zs.length → x < ys.getD j 0) := fun _ => by rw [← HZ.out]; omega
            obtain ⟨s1, hs1, hS1⟩ := sl_take HK2.out.2.2.1.sl j j rfl (by rw [HK2.out.2.2.2.2.2]; omega)
            obtain ⟨s3, hs3, hS3⟩ := sl_drop HK2.out.2.2.1.sl j j rfl (by rw [HK2.out.2.2.2.2.2]; omega)
            obtain ⟨v1, w1, hr1, hO1, _, hB1⟩ := run_appI wa wa.heap.size wa.heap.size (.slice none 0 0) s1 [] (ys.take j) (Oi.nil _ _) hS1 (by rw [List.length_take]; simp; omega) (Nat.le_refl _)
            obtain ⟨v2, w2, hr2, hO2, _, hB2⟩ := run_appI (w1.alloc (.cells #[.int .i64 x] 25)) wa.heap.size (w1.heap.size + 1) v1 (.slice (some ⟨w1.heap.size, 0, none⟩) 1 1) ([] ++ ys.take j) [x] (hO1.below ((Below.refl _ w1).alloc (Nat.le_refl _) _) (Nat.le_refl _)) (sl_one w1 x hxb) (by rw [List.nil_append, List.length_take]; simp; omega) (by have := hB1.size; simp; omega)
            have hB12 : Below wa.heap.size wa w2 := (hB1.alloc hB1.size _).trans hB2
            obtain ⟨v3, w3, hr3, hO3, _, hB3⟩ := run_appI w2 wa.heap.size wa.heap.size v2 s3 ([] ++ ys.take j ++ [x]) (ys.drop j) hO2 (hS3.below hB12 (Nat.le_refl _)) (by rw [List.nil_append, List.length_append, List.length_take, List.length_drop]; have := HK2.out.2.2.2.2.2; simp; omega) hB12.size
            have H3 : Hid (Oi w3 wa.heap.size v3 ([] ++ ys.take j ++ [x] ++ ys.drop j) ∧ Below wa.heap.size wa w3) := ⟨hO3, hB12.trans hB3⟩
            clear hS1 hS3 hO1 hO2 hO3 hB1 hB2 hB3 hB12
            have hlen := fun u => len_run (some sad) k scap u
            have hidx := fun u => idx_at sad k scap j u hjk
            generalize Value.slice (some sad) k scap = sv at *
            go_wp2_with (first | (at_builtin; refine wpList_appR rfl _ _ rfl rfl _ _ _ (by rfl) (by rfl) hr1 ?_) | (at_builtin; refine wpList_appR rfl _ _ rfl rfl _ _ _ (by rfl) (by rfl) hr2 ?_) | (at_builtin; refine wpList_appR rfl _ _ rfl rfl _ _ _ (by rfl) (by rfl) hr3 ?_))
            go_roundw
            case rel =>
              have e : [] ++ ys.take j ++ [x] ++ ys.drop j = Pu.srt (zs ++ [x]) := by
                rw [Pu.srt_ins zs x j (by rw [HK2.out.1]; omega) (by rw [← HK2.out.2.2.2.2.1]; exact HJ.out) (by rw [← HK2.out.2.2.2.2.1]; exact HE.out), ← HK2.out.2.2.2.2.1]
                simp
              refine ⟨k + 1, zs ++ [x], by omega, by go_num, ⟨by rw [List.length_append, HK2.out.1]; rfl, ?_, ?_, HK2.out.2.2.2.1.trans (H3.out.2.mono HK2.out.2.2.2.1.size)⟩⟩
              · rw [Pu.cls_take_succ xs k (by rw [← HM.out]; exact hlt), ← HK2.out.2.1, ← HY.out, ← HX.out]
              · rw [← e]; exact H3.out.1.mono HK2.out.2.2.2.1.size
            case measure => simp [intOf]; omega
        · have HE : Hid (j < zs.length → x < ys.getD j 0) := fun hz => by have := HK2.out.1; omega
          obtain rfl : k = j := by omega
          obtain ⟨s1, hs1, hS1⟩ := sl_take HK2.out.2.2.1.sl k k rfl (by rw [HK2.out.2.2.2.2.2]; omega)
          obtain ⟨s3, hs3, hS3⟩ := sl_drop HK2.out.2.2.1.sl k k rfl (by rw [HK2.out.2.2.2.2.2]; omega)
          obtain ⟨v1, w1, hr1, hO1, _, hB1⟩ := run_appI wa wa.heap.size wa.heap.size (.slice none 0 0) s1 [] (ys.take k) (Oi.nil _ _) hS1 (by rw [List.length_take]; simp; omega) (Nat.le_refl _)
          obtain ⟨v2, w2, hr2, hO2, _, hB2⟩ := run_appI (w1.alloc (.cells #[.int .i64 x] 25)) wa.heap.size (w1.heap.size + 1) v1 (.slice (some ⟨w1.heap.size, 0, none⟩) 1 1) ([] ++ ys.take k) [x] (hO1.below ((Below.refl _ w1).alloc (Nat.le_refl _) _) (Nat.le_refl _)) (sl_one w1 x hxb) (by rw [List.nil_append, List.length_take]; simp; omega) (by have := hB1.size; simp; omega)
          have hB12 : Below wa.heap.size wa w2 := (hB1.alloc hB1.size _).trans hB2
          obtain ⟨v3, w3, hr3, hO3, _, hB3⟩ := run_appI w2 wa.heap.size wa.heap.size v2 s3 ([] ++ ys.take k ++ [x]) (ys.drop k) hO2 (hS3.below hB12 (Nat.le_refl _)) (by rw [List.nil_append, List.length_append, List.length_take, List.length_drop]; have := HK2.out.2.2.2.2.2; simp; omega) hB12.size
          have H3 : Hid (Oi w3 wa.heap.size v3 ([] ++ ys.take k ++ [x] ++ ys.drop k) ∧ Below wa.heap.size wa w3) := ⟨hO3, hB12.trans hB3⟩
          clear hS1 hS3 hO1 hO2 hO3 hB1 hB2 hB3 hB12
          have hlen := fun u => len_run sao k scap u
          generalize Value.slice sao k scap = sv at *
          go_wp2_with (first | (at_builtin; refine wpList_appR rfl _ _ rfl rfl _ _ _ (by rfl) (by rfl) hr1 ?_) | (at_builtin; refine wpList_appR rfl _ _ rfl rfl _ _ _ (by rfl) (by rfl) hr2 ?_) | (at_builtin; refine wpList_appR rfl _ _ rfl rfl _ _ _ (by rfl) (by rfl) hr3 ?_))
          go_roundw
          case rel =>
            have e : [] ++ ys.take k ++ [x] ++ ys.drop k = Pu.srt (zs ++ [x]) := by
              rw [Pu.srt_ins zs x k (by rw [HK2.out.1]; omega) (by rw [← HK2.out.2.2.2.2.1]; exact HJ.out) (by rw [← HK2.out.2.2.2.2.1]; exact HE.out), ← HK2.out.2.2.2.2.1]
              simp
            refine ⟨k + 1, zs ++ [x], by omega, by go_num, ⟨by rw [List.length_append, HK2.out.1]; rfl, ?_, ?_, HK2.out.2.2.2.1.trans (H3.out.2.mono HK2.out.2.2.2.1.size)⟩⟩
            · rw [Pu.cls_take_succ xs k (by rw [← HM.out]; exact hlt), ← HK2.out.2.1, ← HY.out, ← HX.out]
            · rw [← e]; exact H3.out.1.mono HK2.out.2.2.2.1.size
          case measure => simp [intOf]; omega
    · obtain rfl : k = m := by omega
      have hzc : zs = Pu.cls xs := by rw [HK2.out.2.1]; exact List.take_of_length_le (by rw [Pu.cls_len, ← HM.out]; exact Nat.le_refl _)
      have HZ : Hid (ys = Pu.srt (Pu.cls xs) ∧ ys.length = k ∧ Oi wa w.heap.size (.slice sao k scap) ys ∧ Below w.heap.size w wa) := ⟨by rw [HK2.out.2.2.2.2.1, hzc], HK2.out.2.2.2.2.2, HK2.out.2.2.1, HK2.out.2.2.2.1⟩
      clear hzc HK2
      have hni : ¬ ((k : Int) < xs.length ∧ (k : Int) < 64) := by have := HM.out; omega
      by_cases h0 : k = 0
      · subst h0
        have hx0 : xs = [] := List.length_eq_zero_iff.1 (by have := HM.out; omega)
        subst hx0
        go_wp2
        go_ret2
        exact ⟨ret2_i mdM_nil.symm mdW_nil.symm, HZ.out.2.2.2⟩
      · have k0 : (0 : Int) < k := by omega
        have kne : ¬ ((k : Int) = 0) := by omega
        have hml := Pu.mid_len xs
        rw [← HM.out] at hml
        obtain ⟨p, hp⟩ : ∃ p, p + 1 = k - k / 4 - k / 4 := ⟨k - k / 4 - k / 4 - 1, by omega⟩
        rw [← hp] at hml
        obtain ⟨M, hM⟩ : ∃ M, M = Pu.mid xs := ⟨_, rfl⟩
        rw [← hM] at hml
        have hMb : ∀ x ∈ M, -4294967296 ≤ x ∧ x ≤ 4294967296 := fun x hx => by rw [hM] at hx; exact Pu.mid_bd hx
        obtain ⟨s4, hs4, hS4⟩ := sl_mid HZ.out.2.2.1.sl (k / 4) (k - k / 4) ((k : Int) / 4) ((k : Int) - (k : Int) / 4) (by omega) (by omega) (by omega) (by rw [HZ.out.2.1]; omega)
        have eM : (ys.drop (k / 4)).take (k - k / 4 - k / 4) = M := by
          rw [hM]
          unfold Pu.mid Pu.mdl
          rw [← HZ.out.1, HZ.out.2.1]
        rw [eM] at hS4
        obtain ⟨ad4, cp4, hv4, hc0⟩ := hS4.at 0 (by omega)
        rw [hml] at hv4
        subst hv4
        have hlen := fun u => len_run sao k scap u
        have H4 : Hid (M = Pu.mid xs ∧ M.length = p + 1 ∧ Sl wa.heap.size wa (.slice (some ad4) (p + 1) cp4) M ∧ Below w.heap.size w wa ∧ ∀ x ∈ M, -4294967296 ≤ x ∧ x ≤ 4294967296) := ⟨hM, hml, hS4, HZ.out.2.2.2, hMb⟩
        have p64 : (p : Int) < 64 := by omega
        clear hml hp hM hMb hS4 eM HZ hc0
        by_cases hxk : (k : Int) < xs.length
        all_goals
          try (have h64 : ¬ ((k : Int) < 64) := by omega)
          clear hni
          generalize Value.slice sao k scap = sv at *
          go_wp2
          go_loop [9, 74] (fun t i => ∃ j : Nat, j ≤ p + 1 ∧ i = .int .i64 j ∧ t = .int .i64 (M.take j).sum) (fun _ i => (p + 1) - (intOf i).toNat)
          case atStart => exact ⟨0, Nat.zero_le _, rfl, rfl⟩
          case round =>
            obtain ⟨j, hj, rfl, rfl⟩ := hrel
            have hs := Pu.sum_bd (M.take j) (fun x h => H4.out.2.2.2.2 x (List.mem_of_mem_take h))
            have hsl : ((M.take j).length : Int) ≤ 64 := by rw [List.length_take]; omega
            by_cases hjp : j < p + 1
            · have hjl : j < M.length := by rw [H4.out.2.1]; exact hjp
              have hc := H4.out.2.2.1.cell j hjl
              have hm := H4.out.2.2.2.2 _ (Pu.getD_mem M j hjl)
              have hts := Pu.take_sum M j hjl
              have HT : Hid ((M.take (j + 1)).sum = (M.take j).sum + M.getD j 0) := hts
              have jpi : (j : Int) < (p : Int) + 1 := by omega
              clear hts
              generalize (M.take j).sum = S at *
              generalize M.getD j 0 = z at *
              go_wp2
              go_round
              case rel => exact ⟨j + 1, by omega, by go_num, by rw [HT.out]⟩
              case measure => simp [intOf]; omega
            · obtain rfl : j = p + 1 := by omega
              have hMt : M.take (p + 1) = M := List.take_of_length_le (by rw [H4.out.2.1]; exact Nat.le_refl _)
              rw [hMt] at hs hsl ⊢
              have hc1 := H4.out.2.2.1.cell p (by rw [H4.out.2.1]; omega)
              have hc0 := H4.out.2.2.1.cell 0 (by rw [H4.out.2.1]; omega)
              have b1 := H4.out.2.2.2.2 _ (Pu.getD_mem M p (by rw [H4.out.2.1]; omega))
              have b0 := H4.out.2.2.2.2 _ (Pu.getD_mem M 0 (by rw [H4.out.2.1]; omega))
              obtain ⟨z1, hz1⟩ : ∃ z, z = M.getD p 0 := ⟨_, rfl⟩
              obtain ⟨z0, hz0⟩ : ∃ z, z = M.getD 0 0 := ⟨_, rfl⟩
              rw [← hz1] at hc1 b1
              rw [← hz0] at hc0 b0
              obtain ⟨S, hS⟩ : ∃ S, S = M.sum := ⟨_, rfl⟩
              rw [← hS] at hs ⊢
              have hfl := Pu.floor_of S ((p : Int) + 1) (by omega)
              have hmb := Pu.mean_bd M ((p : Int) + 1) _ _ (by rw [H4.out.2.1]; omega) (by rw [H4.out.2.1]; omega) H4.out.2.2.2.2
              rw [← hS] at hmb
              have hqb : -1000000000000 ≤ S.tdiv ((p : Int) + 1) * ((p : Int) + 1) ∧ S.tdiv ((p : Int) + 1) * ((p : Int) + 1) ≤ 1000000000000 := tdiv_bd S _ (by omega) (by omega)
              have hqc : -1000000000000 ≤ S.tdiv ((p : Int) + 1) ∧ S.tdiv ((p : Int) + 1) ≤ 1000000000000 := by
                split at hfl <;> omega
              obtain ⟨D, hD⟩ : ∃ D, S.tdiv ((p : Int) + 1) = D := ⟨_, rfl⟩
              rw [hD] at hqb hqc hfl
              obtain ⟨P, hP⟩ : ∃ P, D * ((p : Int) + 1) = P := ⟨_, rfl⟩
              rw [hP] at hqb hfl
              have HF : Hid ((if S < P then D - 1 else D) = Pu.mdM xs ∧ z1 = M.getD p 0 ∧ z0 = M.getD 0 0) := ⟨by rw [hfl]; unfold Pu.mdM; rw [← H4.out.1, H4.out.2.1, hS]; rfl, hz1, hz0⟩
              have pne : ¬ ((p : Int) + 1 = 0) := by omega
              clear hfl hz1 hz0 hS hMt hs hmb
              rw [add_zero4] at hc0
              by_cases hSP : S < P
              all_goals
                go_wp2
                all_goals
                  go_quiet (fail)
                  go_wp2
                  go_ret2
                  refine ⟨ret2_i ?_ ?_, below_drewN H4.out.2.2.2.1 _⟩
                  · have h9 := HF.out.1
                    first | (rw [if_pos (by omega)] at h9; exact h9) | (rw [if_neg (by omega)] at h9; exact h9)
                  · unfold Pu.mdW
                    rw [← H4.out.1, H4.out.2.1, Nat.add_sub_cancel, HF.out.2.1, HF.out.2.2]
end Go.Proofs.Ytenlkadmniobdaa
