/- cluster: weight, rate, what compares rated ones, what is asked of one. -/
import Derived.Test.YtdlipponajilbaaClM
import Derived.Test.YtdlipponajilbaaClY
namespace Go.Proofs.Ytdlipponajilbaa
open Go Go.RowKit Go.Sort Go.Proofs
set_option linter.unusedVariables false
theorem cn_cells (c : Cn) : (cnL c).toArray = #[.int .i64 c.id, .int .i64 c.o, .int .i64 c.d, .int .i64 c.j, .int .i64 c.s, .bool c.pf, .bool c.pu] := rfl
theorem wt_sh (d : Int) : Fx.sh d (-8) = d / 256 := by
  unfold Fx.sh
  rw [if_pos (by decide)]
  rfl
set_option maxHeartbeats 400000 in
theorem weight_any (c : Cn) (w : World) (ok : okC c) : Calls Try.prog 22 #[.agg (cnL c).toArray] w fun e w' => e = .returned (.int .i64 (wt c)) ∧ Below w.heap.size w w' := by
  obtain ⟨X, hX⟩ : ∃ X, Fx.sh c.d (-8) = X := ⟨_, rfl⟩
  have HC : Hid (∀ u, Calls Try.prog 44 #[.int .i64 c.d, .int .i64 (-8)] u fun e w' => e = .returned (.int .i64 X) ∧ w' = u) := fun u => by rw [← hX]; exact shift_any c.d (-8) u (by decide) (by decide)
  have HW : Hid (wt c = 1099511627776 / max X 1) := by show _ = _; unfold wt; rw [hX]
  have hXb : -36028797018963968 ≤ X ∧ X ≤ 36028797018963968 := by
    have := ok.d
    unfold i64B at this
    rw [wt_sh] at hX
    omega
  obtain ⟨h1, h2⟩ := hXb
  clear hX ok
  rw [cn_cells]
  have h0 : 0 < max X 1 := by omega
  go_enter Try.func22, Try.ntmps22
  go_wp2_with (go_at_call 44; refine (HC.out _).mono ?_; rintro e w' ⟨rfl, hw⟩; rw [hw]; clear hw)
  all_goals
    go_ret
    exact ⟨ret_i64 (by first | exact HW.out.symm | (rw [HW.out]; simp; done)), (Below.refl _ _).alloc (Nat.le_refl _) _⟩
set_option maxHeartbeats 400000 in
theorem nanS_any (a : Int) (w : World) : Calls Try.prog 63 #[.int .i64 a] w fun e w' => e = .returned (.bool false) ∧ w' = w := by
  go_enter Try.func63, Try.ntmps63
  go_wp2
  go_ret
  exact ⟨by simp, rfl⟩
set_option maxHeartbeats 400000 in
theorem nan64_any (a : Int) (w : World) : Calls Try.prog 64 #[.int .i64 a] w fun e w' => e = .returned (.bool false) ∧ w' = w := by
  go_enter Try.func64, Try.ntmps64
  go_wp2
  go_ret
  exact ⟨by simp, rfl⟩
set_option maxHeartbeats 400000 in
theorem cmpS_any (a b : Int) (w : World) : Calls Try.prog 42 #[.int .i64 a, .int .i64 b] w fun e w' => e = .returned (.int .i64 (cmI a b)) ∧ w' = w := by
  have H1 : Hid (∀ (c : Int) (v : World), Calls Try.prog 63 #[.int .i64 c] v fun e w' => e = .returned (.bool false) ∧ w' = v) := fun c v => nanS_any c v
  unfold cmI
  rcases Int.lt_trichotomy a b with h | h | h
  · rw [if_pos h]
    go_enter Try.func42, Try.ntmps42
    go_wp2_with (go_at_call 63; refine (H1.out _ _).mono ?_; rintro e w1 ⟨rfl, hw⟩; rw [hw]; clear hw)
    go_ret
    exact ⟨rfl, rfl⟩
  · subst h
    rw [if_neg (by omega), if_neg (by omega)]
    go_enter Try.func42, Try.ntmps42
    go_wp2_with (go_at_call 63; refine (H1.out _ _).mono ?_; rintro e w1 ⟨rfl, hw⟩; rw [hw]; clear hw)
    go_ret
    exact ⟨rfl, rfl⟩
  · rw [if_neg (by omega), if_pos h]
    go_enter Try.func42, Try.ntmps42
    go_wp2_with (go_at_call 63; refine (H1.out _ _).mono ?_; rintro e w1 ⟨rfl, hw⟩; rw [hw]; clear hw)
    go_ret
    exact ⟨rfl, rfl⟩
set_option maxHeartbeats 400000 in
theorem cmp64_any (a b : Int) (w : World) : Calls Try.prog 43 #[.int .i64 a, .int .i64 b] w fun e w' => e = .returned (.int .i64 (cmI a b)) ∧ w' = w := by
  have H1 : Hid (∀ (c : Int) (v : World), Calls Try.prog 64 #[.int .i64 c] v fun e w' => e = .returned (.bool false) ∧ w' = v) := fun c v => nan64_any c v
  unfold cmI
  rcases Int.lt_trichotomy a b with h | h | h
  · rw [if_pos h]
    go_enter Try.func43, Try.ntmps43
    go_wp2_with (go_at_call 64; refine (H1.out _ _).mono ?_; rintro e w1 ⟨rfl, hw⟩; rw [hw]; clear hw)
    go_ret
    exact ⟨rfl, rfl⟩
  · subst h
    rw [if_neg (by omega), if_neg (by omega)]
    go_enter Try.func43, Try.ntmps43
    go_wp2_with (go_at_call 64; refine (H1.out _ _).mono ?_; rintro e w1 ⟨rfl, hw⟩; rw [hw]; clear hw)
    go_ret
    exact ⟨rfl, rfl⟩
  · rw [if_neg (by omega), if_pos h]
    go_enter Try.func43, Try.ntmps43
    go_wp2_with (go_at_call 64; refine (H1.out _ _).mono ?_; rintro e w1 ⟨rfl, hw⟩; rw [hw]; clear hw)
    go_ret
    exact ⟨rfl, rfl⟩
set_option maxHeartbeats 1000000 in
theorem or_any (c d : Int) (q : Nat) (w : World) (h0 : w.cell? ⟨q, 0, none⟩ = some (.int .i64 c)) (h1 : w.cell? ⟨q, 1, none⟩ = some (.int .i64 d)) : Calls Try.prog 41 #[.slice (some ⟨q, 0, none⟩) 2 2] w fun e w' => e = .returned (.int .i64 (if c = 0 then d else c)) ∧ w' = w := by
  by_cases hc : c = 0
  · subst hc
    rw [if_pos rfl]
    by_cases hd : d = 0
    · subst hd
      go_enter Try.func41, Try.ntmps41
      go_wp2
      go_rounds 3
      all_goals go_ret
      all_goals exact ⟨rfl, rfl⟩
    · have hd' : (d != 0) = true := by simpa using hd
      go_enter Try.func41, Try.ntmps41
      go_wp2
      go_rounds 3
      all_goals go_ret
      all_goals exact ⟨rfl, rfl⟩
  · rw [if_neg hc]
    have hc' : (c != 0) = true := by simpa using hc
    go_enter Try.func41, Try.ntmps41
    go_wp2
    go_rounds 3
    all_goals go_ret
    all_goals exact ⟨rfl, rfl⟩
theorem grown_form1 (w : World) (os : Array Obj) (o : Obj) : ∃ q os', (grow w os).drew.alloc o = grow (w.drewN q) os' := ⟨1, os ++ #[o], by rw [alloc_eq_grow]; show grow (grow (w.drewN 1) os) #[o] = _; rw [grow_grow]⟩
theorem grown_form2 (w : World) (os : Array Obj) (o : Obj) : ∃ q os', ((grow w os).alloc o).drew = grow (w.drewN q) os' := ⟨1, os ++ #[o], by rw [alloc_eq_grow]; show grow (grow (w.drewN 1) os) #[o] = _; rw [grow_grow]⟩
theorem rt_cells (r : Rtd) : (rtL r).toArray = #[.int .i64 r.c.id, .int .i64 r.c.o, .int .i64 r.c.d, .int .i64 r.c.j, .int .i64 r.c.s, .bool r.c.pf, .bool r.c.pu, .int .i64 r.m] := rfl
set_option maxHeartbeats 1000000 in
theorem cmpRt_any : CmpAny cfR rtL := by
  intro x y w
  obtain ⟨⟨a0, a1, a2, a3, a4, a5, a6⟩, a7⟩ := x
  obtain ⟨⟨b0, b1, b2, b3, b4, b5, b6⟩, b7⟩ := y
  rw [rt_cells, rt_cells]
  simp only
  have H1 : Hid (∀ u, Calls Try.prog 42 #[.int .i64 a7, .int .i64 b7] u fun e w' => e = .returned (.int .i64 (cmI a7 b7)) ∧ w' = u) := fun u => cmpS_any a7 b7 u
  have H2 : Hid (∀ u, Calls Try.prog 43 #[.int .i64 a0, .int .i64 b0] u fun e w' => e = .returned (.int .i64 (cmI a0 b0)) ∧ w' = u) := fun u => cmp64_any a0 b0 u
  have HR : Hid (cfR ⟨⟨a0, a1, a2, a3, a4, a5, a6⟩, a7⟩ ⟨⟨b0, b1, b2, b3, b4, b5, b6⟩, b7⟩ = if cmI a7 b7 = 0 then cmI a0 b0 else cmI a7 b7) := rfl
  generalize cmI a7 b7 = C at *
  generalize cmI a0 b0 = D at *
  obtain ⟨R, hR⟩ : ∃ R, R = (if C = 0 then D else C) := ⟨_, rfl⟩
  have H3 : Hid (∀ u q, u.cell? ⟨q, 0, none⟩ = some (.int .i64 C) → u.cell? ⟨q, 1, none⟩ = some (.int .i64 D) → Calls Try.prog 41 #[.slice (some ⟨q, 0, none⟩) 2 2] u fun e w' => e = .returned (.int .i64 R) ∧ w' = u) := fun u q h0 h1 => by rw [hR]; exact or_any C D q u h0 h1
  rw [← hR] at HR
  clear hR
  go_enter Try.func40, Try.ntmps40
  go_wp2
  generalize hW : World.alloc _ _ = W
  have d0 : W.cell? ⟨w.heap.size, 0, none⟩ = some (.int .i64 a0) := by rw [← hW]; simp
  have d7 : W.cell? ⟨w.heap.size, 7, none⟩ = some (.int .i64 a7) := by rw [← hW]; simp
  have e0 : W.cell? ⟨w.heap.size + 1, 0, none⟩ = some (.int .i64 b0) := by rw [← hW]; simp
  have e7 : W.cell? ⟨w.heap.size + 1, 7, none⟩ = some (.int .i64 b7) := by rw [← hW]; simp
  have HW : Hid (∃ os, W = grow w os) := by
    rw [← hW]
    exact ⟨_, by rw [alloc_eq_grow, alloc_eq_grow, grow_grow]⟩
  clear hW
  go_region_held3 (fun w' => w'.cell? ⟨w.heap.size, 0, none⟩ = some (.int .i64 a0) ∧ w'.cell? ⟨w.heap.size, 7, none⟩ = some (.int .i64 a7) ∧ w'.cell? ⟨w.heap.size + 1, 0, none⟩ = some (.int .i64 b0) ∧ w'.cell? ⟨w.heap.size + 1, 7, none⟩ = some (.int .i64 b7)) (first | exact ⟨d0, d7, e0, e7⟩ | go_keep) (first | (go_at_call 42; refine (H1.out _).mono ?_; rintro e w1 ⟨rfl, rfl⟩) | (go_at_call 43; refine (H2.out _).mono ?_; rintro e w1 ⟨rfl, rfl⟩) | (go_at_call 41; refine (H3.out _ _ (by simp) (by simp)).mono ?_; rintro e w1 ⟨rfl, rfl⟩))
  all_goals
    go_wp2
    go_ret
    refine ⟨ret_int' HR.out.symm, ?_⟩
    obtain ⟨os, hos⟩ := HW.out
    rw [hos]
    first
    | exact grown_form1 w os _
    | exact grown_form2 w os _
set_option maxHeartbeats 400000 in
theorem prefer_any (c : Cn) (w : World) : Calls Try.prog 58 #[.agg (cnL c).toArray] w fun e w' => e = .returned (.bool (isPf c)) ∧ Below w.heap.size w w' := by
  rw [cn_cells]
  go_enter Try.func58, Try.ntmps58
  go_wp2
  go_ret
  exact ⟨rfl, (Below.refl _ _).alloc (Nat.le_refl _) _⟩
set_option maxHeartbeats 400000 in
theorem hasId_any (c : Cn) (was : Int) (g : Nat) (w : World) (hl : g < w.heap.size) (hg : w.cell? ⟨g, 0, none⟩ = some (.int .i64 was)) : Calls Try.prog 60 #[.agg (cnL c).toArray, .pointer (some ⟨g, 0, none⟩)] w fun e w' => e = .returned (.bool (isId was c)) ∧ Below w.heap.size w w' := by
  have hg2 : ∀ o, (w.alloc o).cell? ⟨g, 0, none⟩ = some (.int .i64 was) := fun o => (((Below.refl _ _).alloc (Nat.le_refl _) o).cell (p := ⟨g, 0, none⟩) hl).trans hg
  rw [cn_cells]
  unfold isId
  go_enter Try.func60, Try.ntmps60
  go_wp2
  all_goals
    go_ret
    exact ⟨by first | rfl | simp, (Below.refl _ _).alloc (Nat.le_refl _) _⟩
end Go.Proofs.Ytdlipponajilbaa
