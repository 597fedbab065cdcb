/- PulseSteady, walked. -/
import Derived.Test.YtogloknoaeackaaPL
import Derived.Test.YtogloknoaeackaaPS
namespace Go.Proofs.Ytogloknoaeackaa
open Go.RowKit
set_option maxHeartbeats 1000000 in
theorem steady_out (b o m f : Int) (w : World) (h : o ≤ -2147483648 ∨ 2147483648 ≤ o ∨ m < 3 ∨ 100 < m ∨ f < -1152921504606846976 ∨ 1152921504606846976 < f) :
    Calls Try.prog 8 #[.int .u64 b, .int .i64 o, .int .i64 m, .int .i64 f] w fun e w' => e = .returned (.bool true) ∧ Below w.heap.size w w' := by
  by_cases c1 : o ≤ -2147483648
  · go_enter Try.func8, Try.ntmps8
    go_wp2_with (go_at_call 9; refine (shown_any _).mono ?_; rintro e w1 ⟨rfl, hB⟩)
    go_ret
    exact ⟨rfl, hB⟩
  by_cases c2 : 2147483648 ≤ o
  · go_enter Try.func8, Try.ntmps8
    go_wp2_with (go_at_call 9; refine (shown_any _).mono ?_; rintro e w1 ⟨rfl, hB⟩)
    go_ret
    exact ⟨rfl, hB⟩
  by_cases c3 : m < 3
  · go_enter Try.func8, Try.ntmps8
    go_wp2_with (go_at_call 9; refine (shown_any _).mono ?_; rintro e w1 ⟨rfl, hB⟩)
    go_ret
    exact ⟨rfl, hB⟩
  by_cases c4 : 100 < m
  · go_enter Try.func8, Try.ntmps8
    go_wp2_with (go_at_call 9; refine (shown_any _).mono ?_; rintro e w1 ⟨rfl, hB⟩)
    go_ret
    exact ⟨rfl, hB⟩
  by_cases c5 : f < -1152921504606846976
  · go_enter Try.func8, Try.ntmps8
    go_wp2_with (go_at_call 9; refine (shown_any _).mono ?_; rintro e w1 ⟨rfl, hB⟩)
    go_ret
    exact ⟨rfl, hB⟩
  have c6 : 1152921504606846976 < f := by omega
  clear h
  go_enter Try.func8, Try.ntmps8
  go_wp2_with (go_at_call 9; refine (shown_any _).mono ?_; rintro e w1 ⟨rfl, hB⟩)
  go_ret
  exact ⟨rfl, hB⟩
set_option maxHeartbeats 4000000 in
theorem steady_in (b o f : Int) (N : Nat) (w : World) (b0 : 0 ≤ b) (b1 : b < 18446744073709551616) (o0 : -2147483648 < o) (o1 : o < 2147483648) (m0 : 3 ≤ (N : Int)) (m1 : (N : Int) ≤ 100) (f0 : -1152921504606846976 ≤ f) (f1 : f ≤ 1152921504606846976) :
    Calls Try.prog 8 #[.int .u64 b, .int .i64 o, .int .i64 N, .int .i64 f] w fun e w' => e = .returned (.bool true) ∧ Below w.heap.size w w' := by
  go_enter Try.func8, Try.ntmps8
  go_wp2_with fail
  refine (shown_any _).mono ?_
  rintro e w1 ⟨rfl, hB1⟩
  have HB1 : Hid (Below w.heap.size w w1) := hB1
  clear hB1
  go_wp2_with fail
  refine (new_any _).mono ?_
  rintro e w2 ⟨rfl, hL2, hB2, _⟩
  obtain ⟨p, hp⟩ : ∃ p, p = w1.heap.size := ⟨_, rfl⟩
  rw [← hp] at hL2 hB2 ⊢
  have HP : Hid (w.heap.size ≤ p) := by have := HB1.out.size; show w.heap.size ≤ p; omega
  have H2 : Hid (Ln w2 p [] false 0 4607182418800017408 0 ∧ Below w.heap.size w w2) := ⟨hL2, HB1.out.trans ⟨hB2.os, hB2.tape, hB2.output, by have := hB2.size; omega, fun k hk => hB2.block k (by have := HB1.out.size; omega)⟩⟩
  clear hL2 hB2 hp HB1
  go_wp2_with fail
  go_loopw [10, 44] (fun t i wr => ∃ (k : Nat) (a la : Int) (re im : Nat), (k : Int) ≤ N ∧ i = .int .i64 k ∧ t = .int .u64 a ∧ 0 ≤ a ∧ a < 18446744073709551616 ∧ Hid (a % 4294967296 = 0 ∧ (0 < k → la = a) ∧ Ln wr p (List.replicate (min k 16) (-o)) (decide (0 < k)) la re im ∧ Below w.heap.size w wr)) (fun _ i _ => N - (intOf i).toNat)
  case atStart => exact ⟨0, _, 0, _, _, by omega, rfl, rfl, by omega, by omega, ⟨by omega, by omega, H2.out.1, H2.out.2⟩⟩
  case round =>
    obtain ⟨k, a, la, re, im, hk, rfl, rfl, a0, a1, HK⟩ := hrel
    by_cases hlt : (k : Int) < N
    · obtain ⟨x, hx⟩ : ∃ x, x = IntKind.u64.wrap (a + 4294967296) := ⟨_, rfl⟩
      have hx0 : 0 ≤ x ∧ x < 18446744073709551616 ∧ x % 4294967296 = 0 ∧ x ≠ a := by rw [hx, IntKind.wrap_u64]; have := HK.out.1; omega
      have HX : Hid (0 ≤ x ∧ x < 18446744073709551616 ∧ x % 4294967296 = 0 ∧ x ≠ a) := hx0
      have hx' : IntKind.u64.wrap (a + 4294967296) = x := hx.symm
      have hy' : IntKind.u64.wrap (x + IntKind.u64.wrap o) = pl x o := by unfold pl; simp only [IntKind.wrap_u64]; omega
      have q := edge_steady p (min k 16) (decide (0 < k)) la x o re im wr HK.out.2.2.1 (by omega) HX.out.2.2.1 HX.out.1 HX.out.2.1 o0 o1 (fun h => by rw [HK.out.2.1 (of_decide_eq_true h)]; exact fun e => HX.out.2.2.2 e.symm)
      have Q : Hid _ := q
      clear q hx hx0
      go_wp2_with fail
      refine Calls.mono Q.out ?_
      rintro e w3 ⟨rfl, ⟨re', im', hL⟩, hg⟩
      have H3 : Hid (Ln w3 p (List.replicate (min (k + 1) 16) (-o)) (decide (0 < k + 1)) x re' im' ∧ Below w.heap.size w w3) := by
        have e1 : decide (0 < k + 1) = true := by simp
        have e2 : min (min k 16 + 1) 16 = min (k + 1) 16 := by omega
        rw [e2] at hL
        rw [e1]
        exact ⟨hL, below_edge HK.out.2.2.2 hg HP.out⟩
      clear hL hg Q hx' hy'
      have x0 := HX.out.1
      have x1 := HX.out.2.1
      go_wp2_with fail
      go_roundw
      case rel => exact ⟨k + 1, x, x, re', im', by omega, by go_num, rfl, x0, x1, ⟨HX.out.2.2.1, fun _ => rfl, H3.out.1, H3.out.2⟩⟩
      case measure => simp [intOf]; omega
    · have hkN : k = N := by omega
      subst hkN
      have q := sample_steady p (min k 16) (decide (0 < k)) la a o f re im wr HK.out.2.2.1 (by omega) (by omega) o0 o1 f0 f1
      have Q : Hid _ := q
      clear q
      go_wp2_with fail
      refine Calls.mono Q.out ?_
      rintro e w3 ⟨rfl, hL, hg⟩
      have H3 : Hid (Ln w3 p [] (decide (0 < k)) la re im ∧ Below w.heap.size w w3) := ⟨hL, below_edge HK.out.2.2.2 hg HP.out⟩
      clear hL hg Q
      go_wp2_with fail
      refine (sample_few p [] (decide (0 < k)) la re im a f _ (H3.out.1.below (B := w3.heap.size) ((Below.refl _ w3).alloc (Nat.le_refl _) _) H3.out.1.lt) (by simp)).mono ?_
      rintro e w4 ⟨rfl, hB⟩
      obtain ⟨hcl, hfr⟩ := bcell hB
      have r0 : w4.cell? ⟨w3.heap.size, 0, none⟩ = some (.int .i64 (f - o)) := by rw [hcl _ _ (by simp)]; simp
      have r1 : w4.cell? ⟨w3.heap.size, 1, none⟩ = some (.int .i64 0) := by rw [hcl _ _ (by simp)]; simp
      have r2 : w4.cell? ⟨w3.heap.size, 2, none⟩ = some (.int .i64 4096) := by rw [hcl _ _ (by simp)]; simp
      have r3 : w4.cell? ⟨w3.heap.size, 3, none⟩ = some (.int .u64 a) := by rw [hcl _ _ (by simp)]; simp
      have hz : w3.heap.size + 1 ≤ w4.heap.size := by have := hB.size; simp at this; omega
      have hz' : ¬ (w3.heap.size = w4.heap.size) := by omega
      have hz2 : w3.heap.size < w4.heap.size := by omega
      have H4 : Hid (Below w.heap.size w w4) := by
        have h3 := H3.out.2
        exact (h3.alloc h3.size _).trans (hB.mono (by have := h3.size; simp; omega))
      clear hcl hfr hB
      unfold smV
      go_wp2_with fail
      go_ret
      exact ⟨rfl, H4.out.alloc H4.out.size _⟩
theorem PulseSteady_walk (a0 : Int) (a1 : Int) (a2 : Int) (a3 : Int) (w0 : (Lit.int .u64 a0).wf = true) (_w1 : (Lit.int .i64 a1).wf = true) (_w2 : (Lit.int .i64 a2).wf = true) (_w3 : (Lit.int .i64 a3).wf = true) (w : World) :
    Calls Try.prog 8 #[.int .u64 a0, .int .i64 a1, .int .i64 a2, .int .i64 a3] w fun e w' => e = .returned (.bool true) ∧ Below w.heap.size w w' := by
  have b := u64_wf w0
  by_cases h : a1 ≤ -2147483648 ∨ 2147483648 ≤ a1 ∨ a2 < 3 ∨ 100 < a2 ∨ a3 < -1152921504606846976 ∨ 1152921504606846976 < a3
  · exact steady_out a0 a1 a2 a3 w h
  · obtain ⟨N, rfl⟩ : ∃ N : Nat, a2 = (N : Int) := ⟨a2.toNat, by omega⟩
    exact steady_in a0 a1 a3 N w (by omega) (by omega) (by omega) (by omega) (by omega) (by omega) (by omega) (by omega)
end Go.Proofs.Ytogloknoaeackaa
