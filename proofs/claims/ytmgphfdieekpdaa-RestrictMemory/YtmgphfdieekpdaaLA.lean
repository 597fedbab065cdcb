/- Senders: how two are held against one another, Clone. -/
import Derived.Test.YtmgphfdieekpdaaRR
import Derived.Test.YtmgphfdieekpdaaGM
import Derived.Sort.Grow
namespace Go.Proofs.Ytmgphfdieekpdaa
open Go Go.RowKit Go.Sort
def cmS (a b : Int) : Int := if a < b then -1 else if b < a then 1 else 0
set_option maxHeartbeats 400000 in
theorem nan64s_any (a : Int) (w : World) : Calls Try.prog 52 #[.int .i64 a] w fun e w' => e = .returned (.bool false) ∧ w' = w := by
  go_enter Try.func52, Try.ntmps52
  go_wp2
  go_ret
  exact ⟨by simp, rfl⟩
set_option maxHeartbeats 400000 in
theorem cmp64s_any (a b : Int) (w : World) : Calls Try.prog 41 #[.int .i64 a, .int .i64 b] w fun e w' => e = .returned (.int .i64 (cmS a b)) ∧ w' = w := by
  have h1 := fun (c : Int) (v : World) => nan64s_any c v
  have H1 : Hid (∀ (c : Int) (v : World), Calls Try.prog 52 #[.int .i64 c] v fun e w' => e = .returned (.bool false) ∧ w' = v) := h1
  clear h1
  unfold cmS
  rcases Int.lt_trichotomy a b with h | h | h
  · rw [if_pos h]
    go_enter Try.func41, Try.ntmps41
    go_wp2_with (go_at_call 52; refine (H1.out _ _).mono ?_; rintro e w1 ⟨rfl, hw⟩; rw [hw]; clear hw)
    go_ret
    exact ⟨rfl, rfl⟩
  · subst h
    rw [if_neg (by omega), if_neg (by omega)]
    go_enter Try.func41, Try.ntmps41
    go_wp2_with (go_at_call 52; refine (H1.out _ _).mono ?_; rintro e w1 ⟨rfl, hw⟩; rw [hw]; clear hw)
    go_ret
    exact ⟨rfl, rfl⟩
  · rw [if_neg (by omega), if_pos h]
    go_enter Try.func41, Try.ntmps41
    go_wp2_with (go_at_call 52; refine (H1.out _ _).mono ?_; rintro e w1 ⟨rfl, hw⟩; rw [hw]; clear hw)
    go_ret
    exact ⟨rfl, rfl⟩
theorem snL_oneS (xs : List Sn) : ∀ r ∈ xs.map snL, ∀ u ∈ r, u.oneCell' = true := fun r hr u hu => by
  obtain ⟨x, _, rfl⟩ := List.mem_map.1 hr
  simp [snL] at hu
  rcases hu with rfl | rfl | rfl | rfl | rfl | rfl <;> rfl
set_option maxHeartbeats 1000000 in
theorem listCmp_any (x y : Sn) (w : World) : Calls Try.prog 40 #[.agg (snL x).toArray, .agg (snL y).toArray] w fun e w' => e = .returned (.int .i64 (cmS y.turn x.turn)) ∧ ∃ q os', w' = grow (w.drewN q) os' := by
  obtain ⟨a0, a1, a2, a3, a4, a5⟩ := x
  obtain ⟨b0, b1, b2, b3, b4, b5⟩ := y
  unfold snL
  simp only
  go_enter Try.func40, Try.ntmps40
  refine post_hid fun Q hQ => ?_
  refine seq_hid fun R hR => ?_
  go_wp2
  refine world_hid fun W1 hW1 => ?_
  have d5 : W1.cell? ⟨w.heap.size, 5, none⟩ = some (.int .i64 a5) := by rw [hW1.out]; simp
  have e5 : W1.cell? ⟨w.heap.size + 1, 5, none⟩ = some (.int .i64 b5) := by rw [hW1.out]; simp
  have HG : Hid (∃ os, W1 = grow w os) := by show ∃ os, W1 = grow w os; rw [hW1.out]; exact ⟨_, by rw [alloc_eq_grow, alloc_eq_grow, grow_grow]⟩
  clear hW1
  rw [hR.out]
  go_wp2_with fail
  refine (cmp64s_any _ _ _).mono ?_
  rintro e w1 ⟨rfl, hw1⟩
  go_wp2_with fail
  rw [hQ.out]
  obtain ⟨os, ho⟩ := HG.out
  exact bodyPost_ret (v := .int .i64 (cmS b5 a5)) (by simp [results, Try.results40]) rfl ⟨rfl, 0, os, by rw [ho]; rfl⟩
set_option maxHeartbeats 1000000 in
theorem eql_nilS (ao : Option Addr) (n c : Nat) (w : World) : (binOp .eql 64 (.slice ao n c) (.slice none 0 0)).run Try.prog w = .ok (.bool ao.isNone) w := by
  have h := run_equal_slice_nil (P := Try.prog) w 64 75 ao n c Try.underlying64
  simp only [binOp, Sem.run_bind, h, Result.andThen_ok, Sem.run_pure]
set_option maxHeartbeats 1000000 in
theorem cloneS_any (N : Nat) (v : Value) (xs : List Sn) (w : World) (hN : N ≤ w.heap.size) (ha : Rk N w 6 v (xs.map snL)) (hra : Ra v) (hl : xs.length ≤ 1000) :
    Calls Try.prog 38 #[v] w fun e w' => ∃ v', e = .returned v' ∧ OR w' w.heap.size 75 6 v' (xs.map snL) ∧ Below w.heap.size w w' := by
  obtain ⟨ao, cap, hav, hc, hcell⟩ := ha.sn
  subst hav
  rcases ao with _ | ad
  · have hc0 := hra _ _ rfl
    have hl0 : xs = [] := List.length_eq_zero_iff.1 (by omega)
    subst hl0 hc0
    simp only [List.length_nil]
    clear ha hra hcell hc hl hN
    have hq := eql_nilS none 0 0
    go_enter Try.func38, Try.ntmps38
    go_wp2
    go_ret
    exact ⟨_, rfl, OR.nil _ _ _ _, Below.refl _ _⟩
  · have HA : Hid (Rk N w 6 (.slice (some ad) xs.length cap) (xs.map snL) ∧ Ra (.slice (some ad) xs.length cap) ∧ N ≤ w.heap.size) := ⟨ha, hra, hN⟩
    have HS : Hid (0 + (xs.map snL).length ≤ maxLen ∧ (0 + (xs.map snL).length) * 48 ≤ 140737488355328) := by
      show _ ∧ _
      rw [List.length_map]
      unfold maxLen
      omega
    obtain ⟨L, hL⟩ : ∃ L, L = xs.length := ⟨_, rfl⟩
    rw [← hL] at HA ⊢
    have HL : Hid (L = xs.length) := hL
    clear ha hra hcell hc hN hL hl
    have hq := eql_nilS (some ad) L cap
    go_enter Try.func38, Try.ntmps38
    go_wp2_with (refine wpList_appk tiSn (by rfl) _ _ (by rfl) w.heap.size N _ (.slice (some ad) L cap) [] (xs.map snL) (by rfl) (by rfl) ?_ ?_ HA.out.2.1 (snL_len xs) (snL_oneS xs) HS.out.1 HS.out.2 (by simp) ?_; exact OR.fresh _ _ _ _ (Nat.le_refl _); exact HA.out.1.below ((Below.refl _ _).alloc (Nat.le_refl _) _) HA.out.2.2)
    intro v1 w1 ho hg hv
    obtain ⟨ao1, cap1, hv1, hc1, -⟩ := ho.rk
    subst hv1
    have HO : Hid (OR w1 w.heap.size 75 6 (.slice ao1 (xs.map snL).length cap1) (xs.map snL)) := ho
    have HB1 : Hid (Below w.heap.size w w1) := ((Below.refl _ _).alloc (Nat.le_refl _) _).grown hg (by simp) (fun k hk => by simp [Value.ownBlock] at hk; omega)
    clear ho hg hv
    go_wp2
    go_ret
    exact ⟨_, rfl, HO.out, HB1.out⟩
end Go.Proofs.Ytmgphfdieekpdaa
