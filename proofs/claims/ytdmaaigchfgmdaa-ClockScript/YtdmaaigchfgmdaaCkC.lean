/- clock: what reads and what writes. -/
import Derived.Test.YtdmaaigchfgmdaaCkB
namespace Go.Proofs.Ytdmaaigchfgmdaa
open Go Go.RowKit Go.Sort
set_option linter.unusedVariables false
set_option maxRecDepth 20000 in
theorem now_any (p : Nat) (s : Cs) (w : World) (h : Po w p s) (ok : OkC s) : Calls Try.prog 12 #[.pointer (some ⟨p, 0, none⟩)] w fun r w' => r = .returned (.int .u64 (atI (s.x + s.e))) ∧ Below w.heap.size w w' := by
  obtain ⟨A, hA⟩ : ∃ t, atI (s.x + s.e) = t := ⟨_, rfl⟩
  obtain ⟨E, hE⟩ : ∃ t, eraI (s.x + s.e) = t := ⟨_, rfl⟩
  have K : Hid (Calls Try.prog 14 #[.pointer (some ⟨p, 0, none⟩)] w fun r w' => r = .returned (.agg #[.int .i64 E, .int .u64 A]) ∧ Below w.heap.size w w') := by
    rw [← hA, ← hE]; exact date_any p s w h ok
  rw [hA]
  have fd : ∀ u : World, (Instr.field 25 (.agg #[.int .i64 E, .int .u64 A]) 1).run Try.prog u = .ok (.int .u64 A) u := fun u => by kernel_rfl
  clear h ok hA hE
  go_enter Try.func12, Try.ntmps12
  refine post_hid fun Q hQ => ?_
  go_wp2_with (go_at_call 14; refine K.out.mono ?_; rintro e w1 ⟨rfl, hb⟩; have HB : Hid (Below w.heap.size w w1) := hb; clear hb)
  rw [hQ.out]
  go_ret
  exact ⟨rfl, HB.out⟩
theorem true_any (p : Nat) (s : Cs) (w : World) (h : Po w p s) : Calls Try.prog 13 #[.pointer (some ⟨p, 0, none⟩)] w fun e w' => e = .returned (.int .u64 (atI s.x)) ∧ w' = w := by
  have c0 : w.cell? ⟨p, 1, none⟩ = some (.int .u64 (atI s.x)) := h.cell 1
  clear h
  go_enter Try.func13, Try.ntmps13
  go_wp2
  go_ret
  exact ⟨rfl, rfl⟩
theorem pace_any (p : Nat) (r f : Int) (w : World) (c3 : w.cell? ⟨p, 3, none⟩ = some (.int .i64 r)) (c4 : w.cell? ⟨p, 4, none⟩ = some (.int .i64 f)) (hr : -140737488355 ≤ r ∧ r ≤ 140737488355) (hf : -140737488355 ≤ f ∧ f ≤ 140737488355) : Calls Try.prog 89 #[.pointer (some ⟨p, 3, none⟩)] w fun e w' => e = .returned (.int .i64 (r + f)) ∧ ∃ n, w' = w.drewN n := by
  have W : Hid (IntKind.i64.wrap (r + f) = r + f) := by show _ = _; rw [IntWalk.i64_left]; exact w64i _ (by omega) (by omega)
  clear hr hf
  go_enter Try.func89, Try.ntmps89
  refine post_hid fun Q hQ => ?_
  go_wp2_with fail
  go_region_held3 (fun w' => w'.cell? ⟨p, 3, none⟩ = some (.int .i64 r) ∧ w'.cell? ⟨p, 4, none⟩ = some (.int .i64 f)) (first | exact ⟨c3, c4⟩ | go_keep) (fail)
  go_wp2_with fail
  rw [hQ.out]
  go_ret
  exact ⟨ret_int' W.out, 1, rfl⟩
theorem slew_any (p : Nat) (s : Cs) (d : Int) (w : World) (h : Po w p s) (ok : OkC s) (hd : -9223372036854775808 ≤ d ∧ d ≤ 9223372036854775807) : Calls Try.prog 8 #[.pointer (some ⟨p, 0, none⟩), .int .i64 d] w fun e w' => e = .returned (.tuple #[]) ∧ Po w' p (slewS s d) ∧ w.grownBy w' (some p) := by
  have HP : Hid (Po w p s) := h
  have c2 : w.cell? ⟨p, 2, none⟩ = some (.int .i64 s.e) := h.cell 2
  have f2 : w.frozen? ⟨p, 2, none⟩ = false := h.frozen 2
  have K : Hid (∀ u, Calls Try.prog 27 #[.int .i64 s.e, .int .i64 d] u fun e w' => e = .returned (.int .i64 (sv (s.e + d))) ∧ w' = u) := fun u => add_any _ _ u (by have := ok.e0; omega) (by have := ok.e1; omega) hd.1 hd.2
  clear h ok hd
  go_enter Try.func8, Try.ntmps8
  go_wp2_with (go_at_call 27; refine (K.out _).mono ?_; rintro e w' ⟨rfl, rfl⟩)
  go_end0
  exact ⟨rfl, HP.out.set (j := 2) _, grownBy_set _ ⟨p, 2, none⟩ _⟩
theorem step_any (p : Nat) (s : Cs) (d : Int) (w : World) (h : Po w p s) (ok : OkC s) (hd : -9223372036854775808 ≤ d ∧ d ≤ 9223372036854775807) : Calls Try.prog 9 #[.pointer (some ⟨p, 0, none⟩), .int .i64 d] w fun e w' => e = .returned (.tuple #[]) ∧ Po w' p (slewS s d) ∧ w.grownBy w' (some p) := by
  have HP : Hid (Po w p s) := h
  have c2 : w.cell? ⟨p, 2, none⟩ = some (.int .i64 s.e) := h.cell 2
  have f2 : w.frozen? ⟨p, 2, none⟩ = false := h.frozen 2
  have K : Hid (∀ u, Calls Try.prog 27 #[.int .i64 s.e, .int .i64 d] u fun e w' => e = .returned (.int .i64 (sv (s.e + d))) ∧ w' = u) := fun u => add_any _ _ u (by have := ok.e0; omega) (by have := ok.e1; omega) hd.1 hd.2
  clear h ok hd
  go_enter Try.func9, Try.ntmps9
  go_wp2_with (go_at_call 27; refine (K.out _).mono ?_; rintro e w' ⟨rfl, rfl⟩)
  go_end0
  exact ⟨rfl, HP.out.set (j := 2) _, grownBy_set _ ⟨p, 2, none⟩ _⟩
theorem setFreq_any (p : Nat) (s : Cs) (d : Int) (w : World) (h : Po w p s) : Calls Try.prog 21 #[.pointer (some ⟨p, 0, none⟩), .int .i64 d] w fun e w' => e = .returned (.tuple #[]) ∧ Po w' p (sfS s d) ∧ w.grownBy w' (some p) := by
  have HP : Hid (Po w p s) := h
  have c4 : w.cell? ⟨p, 4, none⟩ = some (.int .i64 s.f) := h.cell 4
  have f4 : w.frozen? ⟨p, 4, none⟩ = false := h.frozen 4
  clear h
  go_enter Try.func21, Try.ntmps21
  go_wp2_with (go_at_call 26; refine (cut_any _ _).mono ?_; rintro e w' ⟨rfl, rfl⟩)
  go_end0
  exact ⟨rfl, HP.out.set (j := 4) _, grownBy_set _ ⟨p, 4, none⟩ _⟩
theorem setRate_any (p : Nat) (s : Cs) (d : Int) (w : World) (h : Po w p s) : Calls Try.prog 30 #[.pointer (some ⟨p, 0, none⟩), .int .i64 d] w fun e w' => e = .returned (.tuple #[]) ∧ Po w' p (srS s d) ∧ w.grownBy w' (some p) := by
  have HP : Hid (Po w p s) := h
  have c4 : w.cell? ⟨p, 3, none⟩ = some (.int .i64 s.r) := h.cell 3
  have f4 : w.frozen? ⟨p, 3, none⟩ = false := h.frozen 3
  clear h
  go_enter Try.func30, Try.ntmps30
  go_wp2_with (go_at_call 26; refine (cut_any _ _).mono ?_; rintro e w' ⟨rfl, rfl⟩)
  go_end0
  exact ⟨rfl, HP.out.set (j := 3) _, grownBy_set _ ⟨p, 3, none⟩ _⟩
theorem setLeap_any (p : Nat) (s : Cs) (n : Int) (w : World) (h : Po w p s) : Calls Try.prog 23 #[.pointer (some ⟨p, 0, none⟩), .int .i64 n] w fun e w' => e = .returned (.bool (decide (0 ≤ n ∧ n ≤ 2))) ∧ Po w' p (slS s n) ∧ w.grownBy w' (some p) := by
  have HP : Hid (Po w p s) := h
  have c4 : w.cell? ⟨p, 6, none⟩ = some (.int .i64 s.l) := h.cell 6
  have f4 : w.frozen? ⟨p, 6, none⟩ = false := h.frozen 6
  clear h
  by_cases hn : 0 ≤ n ∧ n ≤ 2
  · rw [decide_eq_true hn, slS, if_pos hn]
    rcases (show n = 0 ∨ n = 1 ∨ n = 2 by omega) with rfl | rfl | rfl
    all_goals
      go_enter Try.func23, Try.ntmps23
      go_wp2
      go_ret
      exact ⟨rfl, HP.out.set (j := 6) _, grownBy_set _ ⟨p, 6, none⟩ _⟩
  · rw [decide_eq_false hn, slS, if_neg hn]
    have n0 : ¬ n = 0 := by omega
    have n1 : ¬ n = 1 := by omega
    have n2 : ¬ n = 2 := by omega
    clear hn
    go_enter Try.func23, Try.ntmps23
    go_wp2
    go_ret
    exact ⟨rfl, HP.out, grownBy_below (Below.refl _ _) _⟩
theorem drive_any (p : Nat) (w : World) : Calls Try.prog 47 #[.pointer (some ⟨p, 0, none⟩)] w fun e w' => e = .returned (.iface 91 (.pointer (some ⟨p, 3, none⟩))) ∧ w' = w := by
  go_enter Try.func47, Try.ntmps47
  go_wp2
  go_ret
  exact ⟨rfl, rfl⟩
end Go.Proofs.Ytdmaaigchfgmdaa
