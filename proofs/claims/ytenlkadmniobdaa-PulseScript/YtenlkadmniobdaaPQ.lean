/- PulseMedians, walked. -/
import Derived.Test.YtenlkadmniobdaaPO
import Derived.Test.YtenlkadmniobdaaPJ
import Derived.Test.YtenlkadmniobdaaPS
namespace Go.Proofs.Ytenlkadmniobdaa
open Go.RowKit
theorem Oi.two {w : World} {B : Nat} {v : Value} {xs : List Int} (h : Oi w B v xs) (hp : 0 < xs.length) : ∃ g cap, v = .slice (some ⟨g, 0, none⟩) xs.length cap ∧ B ≤ g ∧ g < w.heap.size ∧ xs.length ≤ cap ∧ (∀ k, k < xs.length → w.cell? ⟨g, k, none⟩ = some (.int .i64 (xs.getD k 0))) := by
  obtain ⟨h, hok⟩ := h
  rcases h.2 with ⟨h1, h2⟩ | ⟨g, cap, cur, h1, h2, h3, h4, h5, h6, h7⟩
  · omega
  · refine ⟨g, cap, h1, h2, (Array.getElem?_eq_some_iff.1 h3).1, h4, fun k hk => ?_⟩
    rw [cell_of_row w g k cur _ (0, 0) h3]
    have e := vi_get xs k hk
    rw [← h7, List.getElem?_take_of_lt (by omega)] at e
    simpa using e
/-- Median of a slice, whatever it is -/
theorem median_sl (v : Value) (xs : List Int) (N : Nat) (w : World) (h : Sl N w v xs) (hN : N ≤ w.heap.size) (hl : xs.length ≤ 9000000000000000000) :
    Calls Try.prog 12 #[v] w fun e w' => e = .returned (.tuple #[.int .i64 (Pu.mdM xs), .int .i64 (Pu.mdW xs)]) ∧ Below w.heap.size w w' := by
  obtain ⟨ao, cap, rfl, h1, h2, h3, h4⟩ := h
  rcases Nat.eq_zero_or_pos xs.length with h0 | h0
  · have : xs = [] := List.length_eq_zero_iff.1 h0
    subst this
    exact median_none ao cap w
  · obtain ⟨ad, rfl, k1, k2⟩ := h2 h0
    exact median_any ad xs cap w h0 hl k2 (by omega)
set_option maxRecDepth 20000 in
set_option maxHeartbeats 4000000 in
theorem PulseMedians_row (v : Value) (xs : List Int) (w : World) (h : Sl w.heap.size w v xs) (hl : xs.length * 8 ≤ 140737488351232) :
    Calls Try.prog 4 #[v] w fun e w' => e = .returned (.bool true) ∧ Below w.heap.size w w' := by
  have HS : Hid (Sl w.heap.size w v xs ∧ xs.length * 8 ≤ 140737488351232) := ⟨h, hl⟩
  obtain ⟨ao, cap, rfl, _⟩ := h
  have hli : (xs.length : Int) ≤ 17592186043904 := by omega
  clear hl
  have hlen := fun u => len_run ao xs.length cap u
  obtain ⟨L, hL⟩ : ∃ L : Int, L = (xs.length : Int) := ⟨_, rfl⟩
  have L0 : 0 ≤ L := by omega
  rw [← hL] at hli hlen
  obtain ⟨v, hv⟩ : ∃ v, v = Value.slice ao xs.length cap := ⟨_, rfl⟩
  rw [← hv] at hlen ⊢
  have HV : Hid (v = Value.slice ao xs.length cap ∧ L = (xs.length : Int) ∧ Sl w.heap.size w v xs) := ⟨hv, hL, by rw [hv]; exact HS.out.1⟩
  clear hv hL
  go_enter Try.func4, Try.ntmps4
  go_wp2_with fail
  refine (shown_any _).mono ?_
  rintro e w1 ⟨rfl, hB⟩
  have hS1 := HV.out.2.2.below hB (Nat.le_refl _)
  obtain ⟨v1, w2, hr1, hO1, _, hB1⟩ := run_appI w1 w1.heap.size w.heap.size (.slice none 0 0) v [] xs (Oi.nil _ _) hS1 (by have := HS.out.2; simp; omega) (Nat.le_refl _)
  obtain ⟨v2, w3, hr2, hO2, _, hB2⟩ := run_appI (w2.alloc (.cells #[.int .i64 77] 25)) w1.heap.size (w2.heap.size + 1) v1 (.slice (some ⟨w2.heap.size, 0, none⟩) 1 1) ([] ++ xs) [77] (hO1.below ((Below.refl _ w2).alloc (Nat.le_refl _) _) (Nat.le_refl _)) (sl_one w2 77 (by omega)) (by have := HS.out.2; simp; omega) (by have := hB1.size; simp; omega)
  have hB3 : Below w1.heap.size w1 w3 := (hB1.alloc hB1.size _).trans hB2
  rw [List.nil_append] at hO2
  obtain ⟨v3, hs3, hS3⟩ := sl_take hO2.sl xs.length L HV.out.2.1.symm (by simp)
  rw [List.take_left] at hS3
  obtain ⟨g, cp, hv2, hg1, hg2, hg3, hcel⟩ := hO2.two (by simp)
  have H3 : Hid (Oi w3 w1.heap.size v2 (xs ++ [77]) ∧ Sl w3.heap.size w3 v3 xs ∧ Sl w.heap.size w3 v xs ∧ Below w.heap.size w w3 ∧ v2 = .slice (some ⟨g, 0, none⟩) (xs ++ [77]).length cp ∧ g < w3.heap.size ∧ (∀ k, k < (xs ++ [77]).length → w3.cell? ⟨g, k, none⟩ = some (.int .i64 ((xs ++ [77]).getD k 0)))) :=
    ⟨hO2, hS3, hS1.below hB3 hB.size, hB.trans (hB3.mono hB.size), hv2, hg2, hcel⟩
  clear hB hS1 hO1 hB1 hO2 hB2 hB3 hS3 hv2 hg1 hg2 hg3 hcel
  go_wp2_with (first | (at_builtin; refine wpList_appR rfl _ _ rfl rfl _ _ _ (by rfl) (by rfl) hr1 ?_) | (at_builtin; refine wpList_appR rfl _ _ rfl rfl _ _ _ (by rfl) (by rfl) hr2 ?_))
  refine (median_sl v3 xs _ _ H3.out.2.1 (Nat.le_refl _) (by have := HS.out.2; omega)).mono ?_
  rintro e w4 ⟨rfl, hB4⟩
  have H4 : Hid (Sl w.heap.size w4 v xs ∧ w.heap.size ≤ w4.heap.size ∧ Below w3.heap.size w3 w4) := ⟨H3.out.2.2.1.below hB4 H3.out.2.2.2.1.size, Nat.le_trans H3.out.2.2.2.1.size hB4.size, hB4⟩
  clear hB4
  go_wp2_with fail
  refine (rmedian_any v xs w.heap.size _ H4.out.1 H4.out.2.1 (by have := HS.out.2; omega)).mono ?_
  rintro e w5 ⟨rfl, hB5⟩
  have hB5 : Below w3.heap.size w3 w5 := H4.out.2.2.trans (hB5.mono H4.out.2.2.size)
  have H5 : Hid (Sl w.heap.size w5 v xs ∧ Below w.heap.size w w5 ∧ ∀ k, k < xs.length + 1 → w5.cell? ⟨g, k, none⟩ = some (.int .i64 ((xs ++ [77]).getD k 0)) ∧ (∀ u, (Instr.indexAt 28 v2 (.int .i64 (k : Int))).run Try.prog u = .ok (.pointer (some ⟨g, k, none⟩)) u)) :=
    ⟨H3.out.2.2.1.below hB5 H3.out.2.2.2.1.size, H3.out.2.2.2.1.trans (hB5.mono H3.out.2.2.2.1.size), fun k hk => ⟨(hB5.cell (p := ⟨g, k, none⟩) H3.out.2.2.2.2.2.1).trans (H3.out.2.2.2.2.2.2 k (by simpa using hk)), fun u => by
      have := idx_at ⟨g, 0, none⟩ (xs ++ [77]).length cp k u (by simpa using hk)
      rw [add_own, Nat.zero_add, ← H3.out.2.2.2.2.1] at this
      exact this⟩⟩
  clear hB5 H4 H3 hs3 hr1 hr2
  have hlast := (H5.out.2.2 xs.length (by omega)).1
  have hlidx := (H5.out.2.2 xs.length (by omega)).2
  have e77 : (xs ++ [77]).getD xs.length 0 = 77 := by simp
  rw [e77] at hlast
  clear e77
  have eL : L = (xs.length : Int) := HV.out.2.1
  rw [← eL] at hlidx
  clear eL
  obtain ⟨N, hN⟩ : ∃ N, N = xs.length := ⟨_, rfl⟩
  rw [← hN] at hlast hlidx
  obtain ⟨MM, hMM⟩ : ∃ M, M = Pu.mdM xs := ⟨_, rfl⟩
  obtain ⟨WW, hWW⟩ : ∃ M, M = Pu.mdW xs := ⟨_, rfl⟩
  rw [← hMM, ← hWW]
  have HN : Hid (N = xs.length ∧ L = (N : Int)) := ⟨hN, by rw [hN]; exact HV.out.2.1⟩
  clear hMM hWW hN
  simp only []
  go_wp2_with fail
  go_loopw [8, 30] (fun _ i wr => ∃ (k q : Nat), k ≤ N ∧ i = .int .i64 k ∧ wr = w5.drewN q) (fun _ i _ => N - (intOf i).toNat)
  case atStart => exact ⟨0, 0, Nat.zero_le _, rfl, rfl⟩
  case round =>
    obtain ⟨k, q, hk, rfl, hwr⟩ := hrel
    subst hwr
    by_cases hlt : k < N
    · have hkx : k < xs.length := by have := HN.out.1; omega
      have kL : (k : Int) < L := by have := HN.out.2; omega
      obtain ⟨ad, cp', hvv, hcv⟩ := H5.out.1.at k hkx
      have hiv : ∀ u, (Instr.indexAt 28 v (.int .i64 (k : Int))).run Try.prog u = .ok (.pointer (some (ad.add k))) u := fun u => by rw [hvv]; exact idx_at ad _ cp' k u hkx
      obtain ⟨hcg, hig⟩ := H5.out.2.2 k (by omega)
      have ek : (xs ++ [77]).getD k 0 = xs.getD k 0 := by rw [List.getD_eq_getElem?_getD, List.getElem?_append_left hkx, ← List.getD_eq_getElem?_getD]
      rw [ek] at hcg
      clear ek
      obtain ⟨z, hz⟩ : ∃ z, z = xs.getD k 0 := ⟨_, rfl⟩
      rw [← hz] at hcg hcv
      clear hz hvv
      go_wp2_with fail
      go_quiet (fail)
      go_wp2_with fail
      exact ⟨⟨k + 1, q + nq, by omega, by go_num, rfl⟩, by simp [intOf]; omega⟩
    · obtain rfl : k = N := by omega
      have kL : ¬ ((k : Int) < L) := by have := HN.out.2; omega
      go_wp2_with fail
      go_ret
      exact ⟨rfl, below_drewN H5.out.2.1 _⟩
end Go.Proofs.Ytenlkadmniobdaa
