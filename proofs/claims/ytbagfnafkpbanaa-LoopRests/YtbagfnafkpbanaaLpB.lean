/- The program's functions that write. -/
import Derived.Test.YtbagfnafkpbanaaLpA
namespace Go.Proofs.Ytbagfnafkpbanaa
open Go Go.RowKit Go.Sort
set_option linter.unusedVariables false
theorem Po.drewN {w : World} {p : Nat} {s : Lp} (h : Po w p s) (n : Nat) : Po (w.drewN n) p s := Bk.kept h rfl
theorem take_any (p : Nat) (s : Lp) (o n : Int) (w : World) (h : Po w p s) : Calls Try.prog 27 #[.pointer (some ⟨p, 0, none⟩), .int .i64 o, .int .i64 n] w fun e w' => e = .returned (.tuple #[]) ∧ Po w' p (tkS s o n) ∧ w.grownBy w' (some p) := by
  have HP : Hid (Po w p s) := h
  have c6 : w.cell? ⟨p, 6, none⟩ = some (.int .i64 s.base) := h.cell 6
  have c7 : w.cell? ⟨p, 7, none⟩ = some (.int .i64 s.wn) := h.cell 7
  have f6 : w.frozen? ⟨p, 6, none⟩ = false := h.frozen 6
  have f7 : w.frozen? ⟨p, 7, none⟩ = false := h.frozen 7
  clear h
  go_enter Try.func27, Try.ntmps27
  go_wp2
  go_end0
  exact ⟨rfl, (HP.out.set (j := 6) _).set (j := 7) _, grownBy_trans (grownBy_set _ ⟨p, 6, none⟩ _) (grownBy_set _ ⟨p, 7, none⟩ _)⟩
theorem turn_any (p : Nat) (s : Lp) (x : Int) (w : World) (h : Po w p s) (hr : -140737488355 ≤ s.rate ∧ s.rate ≤ 140737488355) (hx : -140737488355 ≤ x ∧ x ≤ 140737488355) : Calls Try.prog 46 #[.pointer (some ⟨p, 0, none⟩), .int .i64 x] w fun e w' => e = .returned (.tuple #[]) ∧ Po w' p (turnS s x) ∧ w.grownBy w' (some p) := by
  have HP : Hid (Po w p s) := h
  have c4 : w.cell? ⟨p, 4, none⟩ = some (.int .i64 s.rate) := h.cell 4
  have f4 : w.frozen? ⟨p, 4, none⟩ = false := h.frozen 4
  have k1 : wrap64 (s.rate + x) = s.rate + x := w64i _ (by omega) (by omega)
  clear h hr hx
  go_enter Try.func46, Try.ntmps46
  go_wp2_with (go_at_call 22; refine (cut_any _ _).mono ?_; rintro e w' ⟨rfl, rfl⟩)
  go_end0
  exact ⟨rfl, HP.out.set (j := 4) _, grownBy_set _ ⟨p, 4, none⟩ _⟩
/-- the rate of a gap, its parts letters -/
theorem gap_calls (o b E X : Int) (ho : -4611686018427387904 ≤ o ∧ o ≤ 4611686018427387904) (hb : -4611686018427387904 ≤ b ∧ b ≤ 4611686018427387904) (hE : 0 ≤ E ∧ E ≤ 8589934592) (hX : rtF (sv (o - b)) (scF E) = X) :
    ∃ B S : Int, (∀ u, Calls Try.prog 48 #[.int .i64 o, .int .i64 b] u fun e w' => e = .returned (.int .i64 B) ∧ w' = u) ∧ (∀ u, Calls Try.prog 49 #[.int .i64 E] u fun e w' => e = .returned (.int .i64 S) ∧ ∃ m, w' = u.drewN m) ∧ (∀ u, Calls Try.prog 47 #[.int .i64 B, .int .i64 S] u fun e w' => e = .returned (.int .i64 X) ∧ ∃ m, w' = u.drewN m) := by
  have q1 := sv_bd (o - b)
  have q2 := sv_bd (4294967296 * E)
  refine ⟨sv (o - b), scF E, fun u => ?_, fun u => seconds_any _ _ (by omega) (by omega), fun u => ?_⟩
  · exact sub_any _ _ _ (by omega) (by omega) (by omega) (by omega)
  · rw [← hX]
    exact rate_any _ _ _ (by omega) (by omega) (by unfold scF; omega)
set_option maxHeartbeats 400000 in
theorem measure_any (p : Nat) (s : Lp) (o d : Int) (w : World) (h : Po w p s) (hs : OkL s) (ho : -4611686018427387904 ≤ o ∧ o ≤ 4611686018427387904) (hd : 0 ≤ d ∧ d ≤ 1073741824) : Calls Try.prog 28 #[.pointer (some ⟨p, 0, none⟩), .int .i64 o, .int .i64 d] w fun e w' => e = .returned (.tuple #[]) ∧ Po w' p (meaS s o d) ∧ w.grownBy w' (some p) := by
  obtain ⟨E, hE⟩ : ∃ E, max d 1 = E := ⟨_, rfl⟩
  obtain ⟨X, hX⟩ : ∃ X, meaX s o d = X := ⟨_, rfl⟩
  have bX : -140737488355 ≤ X ∧ X ≤ 140737488355 := by rw [← hX]; exact rt_bd _ _
  obtain ⟨B, S, k1, k2, k3⟩ := gap_calls o s.base E X ho ⟨hs.b0, hs.b1⟩ (by omega) (by rw [← hX, ← hE]; rfl)
  have K : Hid ((∀ u, Calls Try.prog 48 #[.int .i64 o, .int .i64 s.base] u fun e w' => e = .returned (.int .i64 B) ∧ w' = u) ∧ (∀ u, Calls Try.prog 49 #[.int .i64 E] u fun e w' => e = .returned (.int .i64 S) ∧ ∃ m, w' = u.drewN m) ∧ (∀ u, Calls Try.prog 47 #[.int .i64 B, .int .i64 S] u fun e w' => e = .returned (.int .i64 X) ∧ ∃ m, w' = u.drewN m)) := ⟨k1, k2, k3⟩
  have HP : Hid (Po w p s ∧ (-140737488355 ≤ s.rate ∧ s.rate ≤ 140737488355) ∧ (-140737488355 ≤ X ∧ X ≤ 140737488355)) := ⟨h, ⟨hs.r0, hs.r1⟩, bX⟩
  have HE : Hid (turnS s X = meaS s o d) := by show _ = _; rw [← hX]; rfl
  have c6 : w.cell? ⟨p, 6, none⟩ = some (.int .i64 s.base) := h.cell 6
  have mx1 : ∀ u, (Builtin.max_ #[3, 3] 3 #[.int .i64 d, .int .i64 1]).run Try.prog u = .ok (.int .i64 E) u := fun u => by rw [run_mx, hE]
  clear h hs k1 k2 k3 hX hE bX ho hd
  go_enter Try.func28, Try.ntmps28
  refine post_hid fun Q hQ => ?_
  go_wp2_with (first
    | (go_at_call 48; refine (K.out.1 _).mono ?_; rintro e w' ⟨rfl, rfl⟩)
    | (go_at_call 49; refine (K.out.2.1 _).mono ?_; rintro e w' ⟨rfl, m, rfl⟩)
    | (go_at_call 47; refine (K.out.2.2 _).mono ?_; rintro e w' ⟨rfl, m2, rfl⟩)
    | (go_at_call 46; refine (turn_any p s X _ (by exact HP.out.1.drewN _) HP.out.2.1 HP.out.2.2).mono ?_; rintro e w3 ⟨rfl, h5, h6⟩))
  rw [hQ.out]
  go_end0
  refine ⟨rfl, ?_, grownBy_trans (grownBy_drewN _ _ _) h6⟩
  rw [← HE.out]
  exact h5
/-- a step's length, and what counts of an offset -/
theorem part_calls (o d e X : Int) (ho : -4611686018427387904 ≤ o ∧ o ≤ 4611686018427387904) (hd : 1 ≤ d ∧ d ≤ 2048) (he : 1 ≤ e ∧ e ≤ 1024) (hX : cf (sv (o * (min d e * 256) / (e * e))) = X) :
    ∃ M T Y : Int, min d e = M ∧ wrap64 (M * 256) = T ∧ wrap64 (e * e) = Y ∧ ∃ Z, (∀ u, Calls Try.prog 50 #[.int .i64 o, .int .i64 T, .int .i64 Y] u fun e w' => e = .returned (.int .i64 Z) ∧ ∃ m, w' = u.drewN m) ∧ (∀ u, Calls Try.prog 22 #[.int .i64 Z] u fun e w' => e = .returned (.int .i64 X) ∧ w' = u) := by
  have h1 : e * e ≤ 1024 * 1024 := Int.mul_le_mul he.2 he.2 (by omega) (by omega)
  have h2 : 1 * 1 ≤ e * e := Int.mul_le_mul he.1 he.1 (by omega) (by omega)
  refine ⟨_, min d e * 256, e * e, rfl, w64i _ (by omega) (by omega), w64i _ (by omega) (by omega), sv (o * (min d e * 256) / (e * e)), fun u => ?_, fun u => ?_⟩
  · have := scale_any o (min d e * 256) (e * e) u (by omega) (by omega) (by omega) (by omega) (by omega)
    rw [if_neg (by omega)] at this
    exact this
  · rw [← hX]
    exact cut_any _ _
set_option maxHeartbeats 1000000 in
theorem adjust_any (p : Nat) (s : Lp) (o d : Int) (w : World) (h : Po w p s) (hs : OkL s) (ho : -4611686018427387904 ≤ o ∧ o ≤ 4611686018427387904) (hd : 0 ≤ d ∧ d ≤ 1073741824) : Calls Try.prog 29 #[.pointer (some ⟨p, 0, none⟩), .int .i64 o, .int .i64 d] w fun e w' => e = .returned (.tuple #[]) ∧ Po w' p (adjS s o d) ∧ w.grownBy w' (some p) := by
  obtain ⟨E, hE⟩ : ∃ E, max d 1 = E := ⟨_, rfl⟩
  obtain ⟨X, hX⟩ : ∃ X, adjX s o d = X := ⟨_, rfl⟩
  have bX : -140737488355 ≤ X ∧ X ≤ 140737488355 := by
    rw [← hX]; unfold adjX; split
    · exact rt_bd _ _
    · exact cf_bd _
  have HP : Hid (Po w p s ∧ (-140737488355 ≤ s.rate ∧ s.rate ≤ 140737488355) ∧ (-140737488355 ≤ X ∧ X ≤ 140737488355)) := ⟨h, ⟨hs.r0, hs.r1⟩, bX⟩
  have HE : Hid (turnS s X = adjS s o d) := by show _ = _; rw [← hX]; rfl
  have c6 : w.cell? ⟨p, 6, none⟩ = some (.int .i64 s.base) := h.cell 6
  have c8 : w.cell? ⟨p, 8, none⟩ = some (.int .i64 s.exp) := h.cell 8
  have mx1 : ∀ u, (Builtin.max_ #[3, 3] 3 #[.int .i64 d, .int .i64 1]).run Try.prog u = .ok (.int .i64 E) u := fun u => by rw [run_mx, hE]
  by_cases hl : 2048 < E
  · obtain ⟨G, hG⟩ : ∃ G, wrap64 (8 * E) = G := ⟨_, rfl⟩
    have eG : 8 * E = G := by rw [← hG]; exact (w64i _ (by omega) (by omega)).symm
    obtain ⟨B, S, k1, k2, k3⟩ := gap_calls o s.base G X ho ⟨hs.b0, hs.b1⟩ (by omega) (by rw [← hX, ← eG]; unfold adjX; rw [hE, if_pos hl])
    have K : Hid ((∀ u, Calls Try.prog 48 #[.int .i64 o, .int .i64 s.base] u fun e w' => e = .returned (.int .i64 B) ∧ w' = u) ∧ (∀ u, Calls Try.prog 49 #[.int .i64 G] u fun e w' => e = .returned (.int .i64 S) ∧ ∃ m, w' = u.drewN m) ∧ (∀ u, Calls Try.prog 47 #[.int .i64 B, .int .i64 S] u fun e w' => e = .returned (.int .i64 X) ∧ ∃ m, w' = u.drewN m)) := ⟨k1, k2, k3⟩
    clear h hs k1 k2 k3 hX hE bX ho hd eG
    go_enter Try.func29, Try.ntmps29
    refine post_hid fun Q hQ => ?_
    go_wp2_with (first
      | (go_at_call 48; refine (K.out.1 _).mono ?_; rintro e w' ⟨rfl, rfl⟩)
      | (go_at_call 49; refine (K.out.2.1 _).mono ?_; rintro e w' ⟨rfl, m, rfl⟩)
      | (go_at_call 47; refine (K.out.2.2 _).mono ?_; rintro e w' ⟨rfl, m2, rfl⟩)
      | (go_at_call 46; refine (turn_any p s X _ (by exact HP.out.1.drewN _) HP.out.2.1 HP.out.2.2).mono ?_; rintro e w3 ⟨rfl, h5, h6⟩))
    rw [hQ.out]
    refine bodyPost_ret (results_none rfl _ _ _) rfl ?_
    refine ⟨rfl, ?_, grownBy_trans (grownBy_drewN _ _ _) h6⟩
    rw [← HE.out]
    exact h5
  · have b2 := pw_bd s.exp hs.e1
    obtain ⟨e, he⟩ : ∃ e, pw s.exp = e := ⟨_, rfl⟩
    rw [he] at b2
    obtain ⟨M, T, Y, hM, hT, hY, Z, k1, k2⟩ := part_calls o E e X ho (by omega) b2 (by rw [← hX]; unfold adjX; rw [hE, if_neg hl, he])
    have K : Hid ((∀ u, Calls Try.prog 50 #[.int .i64 o, .int .i64 T, .int .i64 Y] u fun e w' => e = .returned (.int .i64 Z) ∧ ∃ m, w' = u.drewN m) ∧ (∀ u, Calls Try.prog 22 #[.int .i64 Z] u fun e w' => e = .returned (.int .i64 X) ∧ w' = u)) := ⟨k1, k2⟩
    have mn1 : ∀ u, (Builtin.min_ #[3, 3] 3 #[.int .i64 E, .int .i64 e]).run Try.prog u = .ok (.int .i64 M) u := fun u => by rw [run_mn, hM]
    have wm : min s.exp.toNat 64 = s.exp.toNat := by have := hs.e1; omega
    have w1 : wrap64 (2 ^ min s.exp.toNat 64) = e := by rw [wm, ← he]; exact w64i (pw s.exp) (by omega) (by omega)
    have w2 : IntKind.i64.wrap (2 ^ min s.exp.toNat 64) = e := by rw [IntWalk.i64_left]; exact w1
    have e0 : ¬ s.exp < 0 := by have := hs.e0; omega
    clear h hs k1 k2 hX hE bX ho hd he hM b2 wm
    go_enter Try.func29, Try.ntmps29
    refine post_hid fun Q hQ => ?_
    go_wp2_with (first
      | (go_at_call 50; refine (K.out.1 _).mono ?_; rintro e w' ⟨rfl, m, rfl⟩)
      | (go_at_call 22; refine (K.out.2 _).mono ?_; rintro e w' ⟨rfl, rfl⟩)
      | (go_at_call 46; refine (turn_any p s X _ (by exact HP.out.1.drewN _) HP.out.2.1 HP.out.2.2).mono ?_; rintro e w3 ⟨rfl, h5, h6⟩))
    rw [hQ.out]
    go_end0
    refine ⟨rfl, ?_, grownBy_trans (grownBy_drewN _ _ _) h6⟩
    rw [← HE.out]
    exact h5
end Go.Proofs.Ytbagfnafkpbanaa
