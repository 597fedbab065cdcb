/- What Median of package pulse returns. -/
import Derived.Test.YtenlkadmniobdaaPC
namespace Go.Proofs.Ytenlkadmniobdaa
open Go.RowKit Go.Sort
theorem cls_take (xs ys : List Int) (m : Nat) (hm : m = min 64 xs.length) (hy : ys.length = 64) (h : ∀ j, j < m → ys.getD j 0 = Fx.cl 4294967296 (xs.getD j 0)) : ys.take m = Pu.cls xs := by
  apply List.ext_getElem?
  intro j
  unfold Pu.cls
  by_cases hj : j < m
  · have h64 : j < 64 := by omega
    rw [List.getElem?_take_of_lt hj, List.getElem?_map, List.getElem?_take_of_lt h64, getD_at ys j (by omega), getD_at xs j (by omega), h j hj]
    rfl
  · rw [List.getElem?_eq_none (by rw [List.length_take]; omega), List.getElem?_eq_none (by rw [List.length_map, List.length_take]; omega)]
theorem ret2_i {a b c d : Int} (h : a = c) (h' : b = d) : Ending.returned (.tuple #[.int .i64 a, .int .i64 b]) = .returned (.tuple #[.int .i64 c, .int .i64 d]) := by rw [h, h']
theorem clampS (a : Int) (w : World) : Calls Try.prog 27 #[.int .i64 a, .int .i64 4294967296] w fun e w' => e = .returned (.int .i64 (Fx.cl 4294967296 a)) ∧ w' = w := clamp_any a 4294967296 w
theorem sub64 (q l r : Nat) (u : World) (h1 : l ≤ r) (h2 : r ≤ 64) (h3 : ¬ 64 = l) : (Instr.sliceAt 58 (.pointer (some ⟨q, 0, none⟩)) (some (.int .i64 (l : Int))) (some (.int .i64 (r : Int))) none).run Try.prog u = .ok (.slice (some ⟨q, l, none⟩) (r - l) (64 - l)) u := by
  simp [Instr.sliceAt, Instr.sliceBounds, Instr.sliceBound, asIntOf, run_underlying Try.underlying58, h1, h2, h3, add_own, Instr.sureAddr]
theorem slice64 (q k : Nat) (u : World) (h : k ≤ 64) : (Instr.sliceAt 58 (.pointer (some ⟨q, 0, none⟩)) (some (.int .i64 ((k : Int) / 4))) (some (.int .i64 ((k : Int) - (k : Int) / 4))) none).run Try.prog u = .ok (.slice (some ⟨q, k / 4, none⟩) (k - k / 4 - k / 4) (64 - k / 4)) u := by
  rw [show ((k : Int) / 4) = ((k / 4 : Nat) : Int) by omega, show ((k : Int) - ((k / 4 : Nat) : Int)) = ((k - k / 4 : Nat) : Int) by omega]
  exact sub64 q (k / 4) (k - k / 4) u (by omega) (by omega) (by omega)
theorem mean_at (ad : Addr) (xs : List Int) (n cap : Nat) (w : World) (hn : xs.length = n) (hl : 0 < n) (hl' : n ≤ 64) (hx : ∀ x ∈ xs, -4294967296 ≤ x ∧ x ≤ 4294967296) (hr : Ra w ad xs) (M : Int) (hM : xs.sum / (n : Int) = M) :
    Calls Try.prog 29 #[.slice (some ad) n cap] w fun e w' => e = .returned (.int .i64 M) ∧ ∃ n, w' = w.drewN n := by
  subst hn; subst hM
  exact mean_fn ad xs cap w hl hl' hx hr
theorem Ra.drew {w : World} {ad : Addr} {xs : List Int} (h : Ra w ad xs) (n : Nat) : Ra (w.drewN n) ad xs := h
set_option maxRecDepth 20000 in
set_option maxHeartbeats 1000000 in
theorem median_any (ad : Addr) (xs : List Int) (cap : Nat) (w : World) (hl : 0 < xs.length) (hl' : xs.length ≤ 9000000000000000000) (hr : Ra w ad xs) (hb : ad.block < w.heap.size) :
    Calls Try.prog 12 #[.slice (some ad) xs.length cap] w fun e w' => e = .returned (.tuple #[.int .i64 (Pu.mdM xs), .int .i64 (Pu.mdW xs)]) ∧ Below w.heap.size w w' := by
  obtain ⟨m, hm⟩ : ∃ m, m = min 64 xs.length := ⟨_, rfl⟩
  obtain ⟨w2, ys0, hcopy, hA0, hy0, hx0, hb0⟩ := copy_room _ rfl ad xs cap m w hl hm hr hb
  have hcopy : (Builtin.copy_ #[28, 28] 3 #[.slice (some ⟨w.heap.size, 0, none⟩) 64 64, .slice (some ad) xs.length cap]).run Try.prog (w.alloc (.cells #[.int .i64 0, .int .i64 0, .int .i64 0, .int .i64 0, .int .i64 0, .int .i64 0, .int .i64 0, .int .i64 0, .int .i64 0, .int .i64 0, .int .i64 0, .int .i64 0, .int .i64 0, .int .i64 0, .int .i64 0, .int .i64 0, .int .i64 0, .int .i64 0, .int .i64 0, .int .i64 0, .int .i64 0, .int .i64 0, .int .i64 0, .int .i64 0, .int .i64 0, .int .i64 0, .int .i64 0, .int .i64 0, .int .i64 0, .int .i64 0, .int .i64 0, .int .i64 0, .int .i64 0, .int .i64 0, .int .i64 0, .int .i64 0, .int .i64 0, .int .i64 0, .int .i64 0, .int .i64 0, .int .i64 0, .int .i64 0, .int .i64 0, .int .i64 0, .int .i64 0, .int .i64 0, .int .i64 0, .int .i64 0, .int .i64 0, .int .i64 0, .int .i64 0, .int .i64 0, .int .i64 0, .int .i64 0, .int .i64 0, .int .i64 0, .int .i64 0, .int .i64 0, .int .i64 0, .int .i64 0, .int .i64 0, .int .i64 0, .int .i64 0, .int .i64 0] 58)) = .ok (.int .i64 (m : Int)) w2 := hcopy
  have hi : (0 : Int) < (xs.length : Int) := by omega
  have hi' : (xs.length : Int) ≤ 9000000000000000000 := by omega
  have hz : ¬ ((xs.length : Int) = 0) := by omega
  have m0 : (0 : Int) < (m : Int) := by omega
  have m1 : (m : Int) ≤ 64 := by omega
  have HM : Hid (m = min 64 xs.length) := hm
  have HA : Hid (Ay w2 w.heap.size 58 ys0 ∧ ys0.length = 64 ∧ (∀ j, j < m → ys0.getD j 0 = xs.getD j 0) ∧ Below w.heap.size w w2) := ⟨hA0, hy0, hx0, hb0⟩
  clear hl hl' hm hA0 hy0 hx0 hb0
  go_enter Try.func12, Try.ntmps12
  go_wp2
  clear hcopy
  go_loopw [6, 15] (fun _ i wr => ∃ (k : Nat) (ys : List Int), k ≤ m ∧ i = .int .i64 k ∧ Hid (Ay wr w.heap.size 58 ys ∧ ys.length = 64 ∧ (∀ j, j < m → ys.getD j 0 = if j < k then Fx.cl 4294967296 (xs.getD j 0) else xs.getD j 0) ∧ Below w.heap.size w wr)) (fun _ i _ => m - (intOf i).toNat)
  case atStart => exact ⟨0, ys0, Nat.zero_le _, rfl, ⟨HA.out.1, HA.out.2.1, by simpa using HA.out.2.2.1, HA.out.2.2.2⟩⟩
  case round =>
    obtain ⟨k, ys, hk, rfl, HY⟩ := hrel
    by_cases hlt : k < m
    · have hc := HY.out.1.cell k (by rw [HY.out.2.1]; omega)
      have hf := HY.out.1.frozen k
      have k64 : (k : Int) < 64 := by omega
      obtain ⟨y, hy⟩ : ∃ y, y = ys.getD k 0 := ⟨_, rfl⟩
      rw [← hy] at hc
      have HYy : Hid (y = ys.getD k 0) := hy
      clear hy
      go_wp2_with (go_at_call 27; refine (clampS _ _).mono ?_; rintro e w' ⟨rfl, rfl⟩)
      refine ⟨⟨k + 1, ys.set k (Fx.cl 4294967296 y), by omega, by go_num, ⟨HY.out.1.set k _, by rw [List.length_set]; exact HY.out.2.1, ?_, HY.out.2.2.2.setCell (Nat.le_refl _) _⟩⟩, by simp [intOf]; omega⟩
      intro j hj
      have h2 := HY.out.2.2.1 j hj
      have h3 := HY.out.2.1
      by_cases e : j = k
      · subst e
        rw [if_neg (by omega)] at h2
        rw [if_pos (by omega), List.getD_eq_getElem?_getD, List.getElem?_set_self (by omega), ← h2, ← HYy.out]
        rfl
      · rw [List.getD_eq_getElem?_getD, List.getElem?_set_ne (by omega), ← List.getD_eq_getElem?_getD, h2]
        by_cases hjk : j < k
        · rw [if_pos hjk, if_pos (by omega)]
        · rw [if_neg hjk, if_neg (by omega)]
    · have hkm : k = m := by omega
      subst hkm
      have hz := cls_take xs ys k HM.out HY.out.2.1 (fun j hj => by rw [HY.out.2.2.1 j hj, if_pos hj])
      have hzl : (Pu.cls xs).length = k := by rw [Pu.cls_len, HM.out]
      have HZ : Hid (ys.take k = Pu.cls xs ∧ (Pu.cls xs).length = k) := ⟨hz, hzl⟩
      clear hz hzl
      obtain ⟨wa, rfl⟩ : ∃ wa, wa = wr := ⟨_, rfl⟩
      have hml := Pu.mid_len xs
      rw [← HM.out] at hml
      obtain ⟨o, ho⟩ : ∃ o, o = k / 4 := ⟨_, rfl⟩
      obtain ⟨p, hp⟩ : ∃ p, p + 1 = k - k / 4 - k / 4 := ⟨k - k / 4 - k / 4 - 1, by omega⟩
      obtain ⟨c, hc⟩ : ∃ c, c = 64 - k / 4 := ⟨_, rfl⟩
      have hsl := fun u => slice64 w.heap.size k u (by omega)
      rw [← hp, ← hc, ← ho] at hsl
      have HP : Hid ((Pu.mid xs).length = p + 1 ∧ p + 1 ≤ 64 ∧ o = k / 4 ∧ p + 1 = k - k / 4 - k / 4) := ⟨by rw [hml, hp], by omega, ho, hp⟩
      have p0 : (p : Int) < 64 := by omega
      clear hml hp hc ho
      go_wp2_with (go_at_call 28; refine (sort_any w.heap.size k 58 ys (Pu.cls xs) 64 _ HY.out.1 HZ.out.2 HZ.out.1 (by omega)).mono ?_; rintro e w4 ⟨rfl, hA4, hg4⟩)
      clear hsl
      have hR4 : Ra w4 ⟨w.heap.size, o, none⟩ (Pu.mid xs) := by
        have h := hA4.ra o (p + 1) (by rw [List.length_append, Pu.srt_len, HZ.out.2, List.length_drop, HY.out.2.1]; have := HP.out.2.2; omega)
        have e : ((Pu.srt (Pu.cls xs) ++ ys.drop k).drop o).take (p + 1) = Pu.mid xs := by
          unfold Pu.mid Pu.mdl
          have hs : (Pu.srt (Pu.cls xs)).length = k := by rw [Pu.srt_len]; exact HZ.out.2
          rw [hs, ← HP.out.2.2.1, HP.out.2.2.2, ← HP.out.2.2.1, List.drop_append_of_le_length (by have := HP.out.2.2; omega), List.take_append_of_le_length (by rw [List.length_drop]; have := HP.out.2.2; omega)]
        rw [e] at h
        exact h
      have hB4 : Below w.heap.size w w4 := HY.out.2.2.2.grown hg4 HY.out.2.2.2.size (fun j hj => by injection hj with hj; omega)
      obtain ⟨a0, ha0⟩ : ∃ x, x = (Pu.mid xs).getD 0 0 := ⟨_, rfl⟩
      obtain ⟨a1, ha1⟩ : ∃ x, x = (Pu.mid xs).getD p 0 := ⟨_, rfl⟩
      have c0 : w4.cell? ⟨w.heap.size, o, none⟩ = some (.int .i64 a0) := by
        have := hR4 0 (by rw [HP.out.1]; omega)
        rw [ha0, ← this, add_own, Nat.add_zero]
      have c1 : w4.cell? ⟨w.heap.size, o + p, none⟩ = some (.int .i64 a1) := by
        have := hR4 p (by rw [HP.out.1]; omega)
        rw [ha1, ← this, add_own]
      have b0 := Pu.mid_bd (Pu.getD_mem (Pu.mid xs) 0 (by rw [HP.out.1]; omega))
      have b1 := Pu.mid_bd (Pu.getD_mem (Pu.mid xs) p (by rw [HP.out.1]; omega))
      rw [← ha0] at b0
      rw [← ha1] at b1
      have H4 : Hid (Ra w4 ⟨w.heap.size, o, none⟩ (Pu.mid xs) ∧ Below w.heap.size w w4 ∧ a0 = (Pu.mid xs).getD 0 0 ∧ a1 = (Pu.mid xs).getD p 0) := ⟨hR4, hB4, ha0, ha1⟩
      clear hR4 hB4 ha0 ha1 hA4 hg4
      go_quiet ((go_at_call 29; exact Calls.quiet_of (mean_at _ (Pu.mid xs) (p + 1) c _ HP.out.1 (by omega) HP.out.2.1 (fun x hx => Pu.mid_bd hx) (H4.out.1.drew _) (Pu.mdM xs) (by unfold Pu.mdM; rw [HP.out.1]))))
      go_wp2
      go_ret2
      refine ⟨ret2_i rfl ?_, below_drewN H4.out.2.1 _⟩
      rw [H4.out.2.2.1, H4.out.2.2.2]
      unfold Pu.mdW
      rw [HP.out.1, Nat.add_sub_cancel]
theorem mdM_nil : Pu.mdM [] = 0 := by unfold Pu.mdM; rw [show Pu.mid [] = [] from List.length_eq_zero_iff.1 (by rw [Pu.mid_len]; simp)]; rfl
theorem mdW_nil : Pu.mdW [] = 0 := by unfold Pu.mdW; rw [show Pu.mid [] = [] from List.length_eq_zero_iff.1 (by rw [Pu.mid_len]; simp)]; rfl
set_option maxRecDepth 20000 in
set_option maxHeartbeats 400000 in
theorem median_none (ao : Option Addr) (cap : Nat) (w : World) :
    Calls Try.prog 12 #[.slice ao 0 cap] w fun e w' => e = .returned (.tuple #[.int .i64 (Pu.mdM []), .int .i64 (Pu.mdW [])]) ∧ Below w.heap.size w w' := by
  rw [mdM_nil, mdW_nil]
  go_enter Try.func12, Try.ntmps12
  go_wp2
  go_ret2
  exact ⟨rfl, Below.refl _ _⟩
end Go.Proofs.Ytenlkadmniobdaa
