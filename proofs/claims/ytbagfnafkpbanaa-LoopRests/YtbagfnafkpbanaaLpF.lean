/- The reference's functions: adjusted, followed. -/
import Derived.Test.YtbagfnafkpbanaaLpE
namespace Go.Proofs.Ytbagfnafkpbanaa
open Go Go.RowKit Go.Sort
set_option linter.unusedVariables false
/-- the second half of weigh, once the tally is T -/
theorem rwg_end {p : Nat} {s : Lp} {b : Bool} {T : Int} {w W W' : World} (hT : tlI s b = T) (hp : Rp W p { s with tally := T }) (hg : w.grownBy W (some p))
    (h : (30 < T ∧ W' = (W.setCell ⟨p, 8, none⟩ (.int .i64 (min (s.exp + 1) 10))).setCell ⟨p, 9, none⟩ (.int .i64 0)) ∨ (T < -30 ∧ W' = (W.setCell ⟨p, 8, none⟩ (.int .i64 (max (s.exp - 1) 3))).setCell ⟨p, 9, none⟩ (.int .i64 0)) ∨ (¬ 30 < T ∧ ¬ T < -30 ∧ W' = W)) : Rp W' p (wgS s b) ∧ w.grownBy W' (some p) := by
  rcases h with ⟨h1, rfl⟩ | ⟨h1, rfl⟩ | ⟨h1, h2, rfl⟩
  · have e : wgS s b = { s with exp := min (s.exp + 1) 10, tally := 0 } := by unfold wgS wgE wgT; rw [hT, if_pos h1, if_pos (.inl h1)]
    rw [e]
    exact ⟨(hp.set (j := 8) _).set (j := 9) _, grownBy_trans hg (grownBy_trans (grownBy_set _ ⟨p, 8, none⟩ _) (grownBy_set _ ⟨p, 9, none⟩ _))⟩
  · have e : wgS s b = { s with exp := max (s.exp - 1) 3, tally := 0 } := by unfold wgS wgE wgT; rw [hT, if_neg (by omega), if_pos h1, if_pos (.inr h1)]
    rw [e]
    exact ⟨(hp.set (j := 8) _).set (j := 9) _, grownBy_trans hg (grownBy_trans (grownBy_set _ ⟨p, 8, none⟩ _) (grownBy_set _ ⟨p, 9, none⟩ _))⟩
  · have e : wgS s b = { s with tally := T } := by unfold wgS wgE wgT; rw [hT, if_neg h1, if_neg h2, if_neg (by omega)]
    rw [e]
    exact ⟨hp, hg⟩
set_option maxHeartbeats 2000000 in
theorem radjust_any (q : Nat) (s : Lp) (o n : Int) (w : World) (h : Rp w q s) (hs : OkL s) (ho : -4611686018427387904 ≤ o ∧ o ≤ 4611686018427387904) (hn : 0 ≤ n ∧ n ≤ 1073741824) : Calls Try.prog 37 #[.pointer (some ⟨q, 0, none⟩), .int .i64 o, .int .i64 n] w fun e w' => e = .returned (.tuple #[]) ∧ Rp w' q (adjS s o (sinS s n)) ∧ w.grownBy w' (some q) := by
  obtain ⟨D, hD⟩ : ∃ D, sinS s n = D := ⟨_, rfl⟩
  have bD : 0 ≤ D ∧ D ≤ 1073741824 := by have := hs.w0; rw [← hD]; unfold sinS; omega
  have H0 : Hid (Rp w q s ∧ w.grownBy w (some q)) := ⟨h, grownBy_drewN w 0 _⟩
  have HP : Hid (Rp w q s ∧ OkL s ∧ (0 ≤ n ∧ n ≤ 1073741824) ∧ sinS s n = D) := ⟨h, hs, hn, hD⟩
  rw [hD]
  obtain ⟨E, hE⟩ : ∃ E, max D 1 = E := ⟨_, rfl⟩
  obtain ⟨X, hX⟩ : ∃ X, adjX s o D = X := ⟨_, rfl⟩
  have bX : -140737488355 ≤ X ∧ X ≤ 140737488355 := by
    rw [← hX]; unfold adjX; split
    · exact rt_bd _ _
    · exact cf_bd _
  obtain ⟨Y, hY⟩ : ∃ Y, s.rate + X = Y := ⟨_, rfl⟩
  have hr0 := hs.r0
  have hr1 := hs.r1
  obtain ⟨k1, k2⟩ := wrapS hY (by omega) (by omega)
  obtain ⟨T, hT⟩ : ∃ T, cf Y = T := ⟨_, rfl⟩
  have HE : Hid (adjS s o D = { s with rate := T }) := by
    show _ = _
    unfold adjS turnS
    rw [hX, hY, hT]
  have K4 : Hid (∀ u, Calls Try.prog 24 #[.int .i64 Y] u fun e w' => e = .returned (.int .i64 T) ∧ Below u.heap.size u w') := fun u => by rw [← hT]; exact rcutf_any _ _ (by omega) (by omega)
  have mx1 : ∀ u, (Builtin.max_ #[3, 3] 3 #[.int .i64 1, .int .i64 D]).run Try.prog u = .ok (.int .i64 E) u := fun u => by rw [run_mx, ← hE]; congr 2; omega
  have c6 : w.cell? ⟨q, 6, none⟩ = some (.int .i64 s.base) := h.cell 6
  have c8 : w.cell? ⟨q, 8, none⟩ = some (.int .i64 s.exp) := h.cell 8
  by_cases hl : 2048 < E
  · obtain ⟨B, hB⟩ : ∃ B, sv (o - s.base) = B := ⟨_, rfl⟩
    obtain ⟨S, hS⟩ : ∃ S, scF (8 * E) = S := ⟨_, rfl⟩
    have eX : rtF B S = X := by rw [← hX, ← hB, ← hS]; unfold adjX; rw [hE, if_pos hl]
    have q1 := sv_bd (o - s.base)
    rw [hB] at q1
    have q2 : -4611686018427387904 ≤ S ∧ S ≤ 4611686018427387904 := by rw [← hS]; exact sv_bd _
    have K1 : Hid (∀ u, Calls Try.prog 40 #[.int .i64 o, .int .i64 s.base] u fun e w' => e = .returned (.int .i64 B) ∧ Below u.heap.size u w') := fun u => by
      have hb0 := hs.b0
      have hb1 := hs.b1
      have := rsub_any o s.base u (by omega) (by omega) (by omega) (by omega)
      rw [← Int.sub_eq_add_neg] at this
      rw [← hB]
      exact this
    have K2 : Hid (∀ u, Calls Try.prog 58 #[.int .i64 E] u fun e w' => e = .returned (.int .i64 S) ∧ Below u.heap.size u w') := fun u => by rw [← hS]; exact reight_any _ _ (by omega) (by omega)
    have K3 : Hid (∀ u, Calls Try.prog 55 #[.int .i64 B, .int .i64 S] u fun e w' => e = .returned (.int .i64 X) ∧ Below u.heap.size u w') := fun u => by rw [← eX]; exact rrate_any _ _ _ (by omega) (by omega) (by omega) (by omega)
    have hl2 : ¬ E ≤ 2048 := by omega
    clear h hs hn ho hD bD hE hB hS hX bX hY hr0 hr1 hT q1 q2 eX hl
    go_enter Try.func37, Try.ntmps37
    refine post_hid fun Q hQ => ?_
    go_wp2_with (first
      | (go_at_call 34; refine (rsince_any q s n _ HP.out.1 HP.out.2.1 HP.out.2.2.1).mono ?_; rintro e w' ⟨rfl, hw⟩; rw [hw, HP.out.2.2.2]; clear hw)
      | (go_at_call 40; refine (K1.out _).mono ?_; rintro e w1 ⟨rfl, hb1⟩; have H1 : Hid (Rp w1 q s ∧ w.grownBy w1 (some q)) := (⟨H0.out.1.kept hb1, grownBy_gr H0.out.2 hb1⟩); clear hb1)
      | (go_at_call 58; refine (K2.out _).mono ?_; rintro e w2 ⟨rfl, hb2⟩; have H2 : Hid (Rp w2 q s ∧ w.grownBy w2 (some q)) := (⟨H1.out.1.kept hb2, grownBy_gr H1.out.2 hb2⟩); clear hb2)
      | (go_at_call 55; refine (K3.out _).mono ?_; rintro e w3 ⟨rfl, hb3⟩; have H3 : Hid (Rp w3 q s ∧ w.grownBy w3 (some q)) := (⟨H2.out.1.kept hb3, grownBy_gr H2.out.2 hb3⟩); clear hb3; have c4_3 : w3.cell? ⟨q, 4, none⟩ = some (.int .i64 s.rate) := (H3.out.1.cell 4))
      | (go_at_call 24; refine (K4.out _).mono ?_; rintro e w4 ⟨rfl, hb4⟩; have H4 : Hid (Rp w4 q s ∧ w.grownBy w4 (some q)) := (⟨H3.out.1.kept hb4, grownBy_gr H3.out.2 hb4⟩); clear hb4; have c4_4 : w4.cell? ⟨q, 4, none⟩ = some (.int .i64 s.rate) := (H4.out.1.cell 4); have f4_4 : w4.frozen? ⟨q, 4, none⟩ = false := (H4.out.1.frozen 4)))
    rw [hQ.out]
    go_end0
    rw [HE.out]
    exact ⟨rfl, H4.out.1.set (j := 4) _, grownBy_trans H4.out.2 (grownBy_set _ ⟨q, 4, none⟩ _)⟩
  · obtain ⟨e, he⟩ : ∃ e, pw s.exp = e := ⟨_, rfl⟩
    have b2 := pw_bd s.exp hs.e1
    rw [he] at b2
    obtain ⟨M, hM⟩ : ∃ M, min E e = M := ⟨_, rfl⟩
    obtain ⟨T2, hT2⟩ : ∃ T2, M * 256 = T2 := ⟨_, rfl⟩
    obtain ⟨Y2, hY2⟩ : ∃ Y2, e * e = Y2 := ⟨_, rfl⟩
    have h1 : e * e ≤ 1024 * 1024 := Int.mul_le_mul b2.2 b2.2 (by omega) (by omega)
    have h2 : 1 * 1 ≤ e * e := Int.mul_le_mul b2.1 b2.1 (by omega) (by omega)
    obtain ⟨j1, j2⟩ := wrapS hT2 (by omega) (by omega)
    obtain ⟨j3, j4⟩ := wrapS hY2 (by omega) (by omega)
    obtain ⟨Z, hZ⟩ : ∃ Z, sv (o * T2 / Y2) = Z := ⟨_, rfl⟩
    have eX : cf Z = X := by rw [← hX, ← hZ, ← hT2, ← hY2, ← hM]; unfold adjX; rw [hE, if_neg hl, he]
    have K1 : Hid (∀ u, Calls Try.prog 57 #[.int .i64 o, .int .i64 T2, .int .i64 Y2] u fun e w' => e = .returned (.int .i64 Z) ∧ Below u.heap.size u w') := fun u => by
      have := rscale_any o T2 Y2 u (by omega) (by omega) (by omega) (by omega) (by omega) (by omega)
      rw [if_neg (by omega)] at this
      rw [← hZ]
      exact this
    have K2 : Hid (∀ u, Calls Try.prog 24 #[.int .i64 Z] u fun e w' => e = .returned (.int .i64 X) ∧ Below u.heap.size u w') := fun u => by
      have := sv_bd (o * T2 / Y2)
      rw [hZ] at this
      rw [← eX]; exact rcutf_any _ _ (by omega) (by omega)
    have mn1 : ∀ u, (Builtin.min_ #[3, 3] 3 #[.int .i64 E, .int .i64 e]).run Try.prog u = .ok (.int .i64 M) u := fun u => by rw [run_mn, hM]
    have hl2 : E ≤ 2048 := by omega
    have e1 := hs.e1
    have e0 := hs.e0
    have HP2 : Hid (pw s.exp = e) := he
    clear h hs hn ho hD bD hE hX bX hY hr0 hr1 hT eX hl hM hT2 hY2 h1 h2 hZ he b2
    go_enter Try.func37, Try.ntmps37
    refine post_hid fun Q hQ => ?_
    go_wp2_with (first
      | (go_at_call 34; refine (rsince_any q s n _ HP.out.1 HP.out.2.1 HP.out.2.2.1).mono ?_; rintro e w' ⟨rfl, hw⟩; rw [hw, HP.out.2.2.2]; clear hw))
    go_loopw [8, 9] (fun pv iv wr => ∃ k : Nat, iv = .int .i64 k ∧ pv = .int .i64 (2 ^ k : Int) ∧ (k : Int) ≤ s.exp ∧ wr = w) (fun _ i _ => s.exp.toNat - (intOf i).toNat)
    case atStart => exact ⟨0, rfl, rfl, by omega, rfl⟩
    case round =>
      obtain ⟨k, rfl, rfl, hk, hwr⟩ := hrel
      rw [hwr]
      clear hwr
      by_cases hlt : (k : Int) < s.exp
      · have b : (1 : Int) ≤ 2 ^ k ∧ (2 : Int) ^ k ≤ 512 := by
          have h2 : 2 ^ k ≤ 2 ^ 9 := Nat.pow_le_pow_right (by omega) (by omega)
          have h3 : 0 < 2 ^ k := Nat.pow_pos (by omega)
          have e : ((2 ^ k : Nat) : Int) = (2 : Int) ^ k := by simp
          omega
        have k1 : wrap64 ((2 : Int) ^ k * 2) = 2 ^ k * 2 := w64i _ (by omega) (by omega)
        have k2 : (2 : Int) ^ (k + 1) = 2 ^ k * 2 := Int.pow_succ ..
        have HE : Hid ((2 : Int) ^ (k + 1) = 2 ^ k * 2) := k2
        clear k2 b
        go_wp2_with fail
        go_roundw
        case rel => exact ⟨k + 1, by go_num, by rw [HE.out, k1], by omega, by trivial⟩
        case measure => simp [intOf]; omega
      · have hkn : (2 : Int) ^ k = e := by
          have : k = s.exp.toNat := by omega
          rw [← HP2.out, this]; rfl
        have hge : s.exp ≤ (k : Int) := by omega
        rw [hkn]
        clear hkn hk
        go_wp2_with (first
          | (go_at_call 57; refine (K1.out _).mono ?_; rintro e w1 ⟨rfl, hb1⟩; have H1 : Hid (Rp w1 q s ∧ w.grownBy w1 (some q)) := (⟨H0.out.1.kept hb1, grownBy_gr H0.out.2 hb1⟩); clear hb1)
          | (go_at_call 24; refine (K2.out _).mono ?_; rintro e w2 ⟨rfl, hb2⟩; have H2 : Hid (Rp w2 q s ∧ w.grownBy w2 (some q)) := (⟨H1.out.1.kept hb2, grownBy_gr H1.out.2 hb2⟩); clear hb2; have c4_2 : w2.cell? ⟨q, 4, none⟩ = some (.int .i64 s.rate) := (H2.out.1.cell 4))
          | (go_at_call 24; refine (K4.out _).mono ?_; rintro e w4 ⟨rfl, hb4⟩; have H4 : Hid (Rp w4 q s ∧ w.grownBy w4 (some q)) := (⟨H2.out.1.kept hb4, grownBy_gr H2.out.2 hb4⟩); clear hb4; have c4_4 : w4.cell? ⟨q, 4, none⟩ = some (.int .i64 s.rate) := (H4.out.1.cell 4); have f4_4 : w4.frozen? ⟨q, 4, none⟩ = false := (H4.out.1.frozen 4)))
        rw [hQ.out]
        go_end0
        rw [HE.out]
        exact ⟨rfl, H4.out.1.set (j := 4) _, grownBy_trans H4.out.2 (grownBy_set _ ⟨q, 4, none⟩ _)⟩
set_option maxHeartbeats 2000000 in
theorem rfollow_any (q : Nat) (s : Lp) (o j n : Int) (w : World) (h : Rp w q s) (hs : OkL s) (ho : -4611686018427387904 ≤ o ∧ o ≤ 4611686018427387904) (hj : -9223372036854775808 ≤ j ∧ j ≤ 9223372036854775807) (hn : 0 ≤ n ∧ n ≤ 1073741824) : Calls Try.prog 38 #[.pointer (some ⟨q, 0, none⟩), .int .i64 o, .int .i64 j, .int .i64 n] w fun e w' => e = .returned (.tuple #[.int .i64 1, .int .i64 0]) ∧ Rp w' q (folS s o j n) ∧ w.grownBy w' (some q) := by
  have HP : Hid (Rp w q s) := h
  obtain ⟨Z, hZ⟩ : ∃ Z, szS o = Z := ⟨_, rfl⟩
  obtain ⟨J, hJ⟩ : ∃ J, Fx.sh j 2 = J := ⟨_, rfl⟩
  have K1 : Hid (∀ u, Calls Try.prog 33 #[.int .i64 o] u fun e w' => e = .returned (.int .i64 Z) ∧ Below u.heap.size u w') := fun u => by rw [← hZ]; exact rabs_any _ _ (by omega) (by omega)
  have K2 : Hid (∀ u, Calls Try.prog 39 #[.int .i64 j, .int .i64 2] u fun e w' => e = .returned (.int .i64 J) ∧ Below u.heap.size u w') := fun u => by rw [← hJ]; exact rshift_any _ _ _ (by omega) (by omega) (by omega) (by omega)
  obtain ⟨b, hb⟩ : ∃ b, decide (Z < J) = b := ⟨_, rfl⟩
  have HF : Hid (folS s o j n = wgS { s with left := o, base := o, wn := n, st := 4 } (decide (Z < J))) := by show _ = _; unfold folS; rw [hZ, hJ]
  have e0 := hs.e0; have e1 := hs.e1; have t0 := hs.t0; have t1 := hs.t1
  obtain ⟨T, hT⟩ : ∃ T, tlI { s with left := o, base := o, wn := n, st := 4 } b = T := ⟨_, rfl⟩
  obtain ⟨A, hA⟩ : ∃ A, s.exp + 1 = A := ⟨_, rfl⟩
  obtain ⟨B, hB⟩ : ∃ B, s.exp - 1 = B := ⟨_, rfl⟩
  have HAB : Hid (s.exp + 1 = A ∧ s.exp - 1 = B) := ⟨hA, hB⟩
  obtain ⟨k1, k2⟩ := wrapS hA (by omega) (by omega)
  obtain ⟨k3, k4⟩ := wrapS hB (by omega) (by omega)
  have mn := run_mn
  have mx := run_mx
  have c3 : w.cell? ⟨q, 3, none⟩ = some (.int .i64 s.st) := h.cell 3
  have c5 : w.cell? ⟨q, 5, none⟩ = some (.int .i64 s.left) := h.cell 5
  have c6 : w.cell? ⟨q, 6, none⟩ = some (.int .i64 s.base) := h.cell 6
  have c7 : w.cell? ⟨q, 7, none⟩ = some (.int .i64 s.wn) := h.cell 7
  have f3 : w.frozen? ⟨q, 3, none⟩ = false := h.frozen 3
  have f5 : w.frozen? ⟨q, 5, none⟩ = false := h.frozen 5
  have f6 : w.frozen? ⟨q, 6, none⟩ = false := h.frozen 6
  have f7 : w.frozen? ⟨q, 7, none⟩ = false := h.frozen 7
  clear h hs ho hj hn hZ hJ hA hB
  go_enter Try.func38, Try.ntmps38
  refine post_hid fun Q hQ => ?_
  refine seq_hid fun R hR => ?_
  go_wp2_with fail
  rw [hR.out]
  clear hR
  refine seq_hid fun R hR => ?_
  go_wp2_with fail
  rw [hR.out]
  clear hR
  refine seq_hid fun R hR => ?_
  go_wp2_with fail
  rw [hR.out]
  clear hR
  refine seq_hid fun R hR => ?_
  go_wp2_with fail
  rw [hR.out]
  clear hR
  refine seq_hid fun R hR => ?_
  go_wp2_with fail
  rw [hR.out]
  clear hR
  refine world_hid fun W0 hW0 => ?_
  have H1 : Hid (Rp W0 q { s with left := o, base := o, wn := n, st := 4 } ∧ w.grownBy W0 (some q)) := by
    rw [hW0.out]
    exact ⟨(((HP.out.set (j := 5) _).set (j := 6) _).set (j := 7) _).set (j := 3) _, grownBy_trans (grownBy_set _ ⟨q, 5, none⟩ _) (grownBy_trans (grownBy_set _ ⟨q, 6, none⟩ _) (grownBy_trans (grownBy_set _ ⟨q, 7, none⟩ _) (grownBy_set _ ⟨q, 3, none⟩ _)))⟩
  clear hW0 c3 c5 c6 c7 f3 f5 f6 f7 HP
  have HT : Hid (tlI { s with left := o, base := o, wn := n, st := 4 } b = T) := hT
  cases b
  · have eT : s.tally - 2 * s.exp = T := by rw [← hT]; rfl
    obtain ⟨u5, u6⟩ := wrapS eT (by omega) (by omega)
    obtain ⟨u3, u4⟩ := wrapS (n := 2 * s.exp) rfl (by omega) (by omega)
    clear hT eT e0 e1 t0 t1
    go_wp2_with (first
      | (go_at_call 33; refine (K1.out _).mono ?_; rintro e w2 ⟨rfl, hb2⟩; have H2 : Hid (Rp w2 q { s with left := o, base := o, wn := n, st := 4 } ∧ w.grownBy w2 (some q)) := (⟨H1.out.1.kept hb2, grownBy_gr H1.out.2 hb2⟩); clear hb2)
      | (go_at_call 39; refine (K2.out _).mono ?_; rintro e w3 ⟨rfl, hb3⟩; have H3 : Hid (Rp w3 q { s with left := o, base := o, wn := n, st := 4 } ∧ w.grownBy w3 (some q)) := (⟨H2.out.1.kept hb3, grownBy_gr H2.out.2 hb3⟩); clear hb3; have c9_3 : w3.cell? ⟨q, 9, none⟩ = some (.int .i64 s.tally) := (H3.out.1.cell 9); have c8_3 : w3.cell? ⟨q, 8, none⟩ = some (.int .i64 s.exp) := (H3.out.1.cell 8); have f9_3 : w3.frozen? ⟨q, 9, none⟩ = false := (H3.out.1.frozen 9)))
    refine wp_region_lastW (by kernel_rfl) (by kernel_rfl) (by rfl) (by kernel_rfl) ?_
    simp only [idleLast, idle]
    repeat (refine qw_step (fun K hK => ?_); go_simp; (refine hK _ ?_; clear hK K))
    refine qw_nil ?_
    intro _ hw'
    obtain ⟨nq, hw''⟩ := hw'
    subst hw''
    refine wpOp_stL (cs := lpL { s with left := o, base := o, wn := n, st := 4 }) _ (by rfl) rfl 3 _ _ rfl H3.out.1 9 (.int .i64 T) (by rfl) (by rfl) rfl (by kernel_rfl) (by simp [lpL]) rfl ?_
    intro W hp hg _
    have h1 : Rp W q { s with left := o, base := o, wn := n, st := 4, tally := T } := hp
    have HW : Hid (Rp W q { s with left := o, base := o, wn := n, st := 4, tally := T } ∧ w.grownBy W (some q)) := ⟨h1, grownBy_trans H3.out.2 (grownBy_trans (grownBy_drewN _ nq _) hg)⟩
    have d8 : W.cell? ⟨q, 8, none⟩ = some (.int .i64 s.exp) := h1.cell 8
    have d9 : W.cell? ⟨q, 9, none⟩ = some (.int .i64 T) := h1.cell 9
    have g8 : W.frozen? ⟨q, 8, none⟩ = false := h1.frozen 8
    have g9 : W.frozen? ⟨q, 9, none⟩ = false := h1.frozen 9
    clear hp hg h1
    by_cases a1 : 30 < T
    · go_wp2_with fail
      rw [hQ.out]
      go_ret2
      rw [HF.out, hb]
      exact ⟨rfl, rwg_end HT.out HW.out.1 HW.out.2 (.inl ⟨a1, by rw [HAB.out.1]⟩)⟩
    by_cases a2 : T < -30
    · go_wp2_with fail
      rw [hQ.out]
      go_ret2
      rw [HF.out, hb]
      exact ⟨rfl, rwg_end HT.out HW.out.1 HW.out.2 (.inr (.inl ⟨a2, by rw [HAB.out.2]⟩))⟩
    · go_wp2_with fail
      rw [hQ.out]
      go_ret2
      rw [HF.out, hb]
      exact ⟨rfl, rwg_end HT.out HW.out.1 HW.out.2 (.inr (.inr ⟨by omega, by omega, rfl⟩))⟩
  · have eT : s.tally + s.exp = T := by rw [← hT]; rfl
    obtain ⟨u5, u6⟩ := wrapS eT (by omega) (by omega)
    clear hT eT e0 e1 t0 t1
    go_wp2_with (first
      | (go_at_call 33; refine (K1.out _).mono ?_; rintro e w2 ⟨rfl, hb2⟩; have H2 : Hid (Rp w2 q { s with left := o, base := o, wn := n, st := 4 } ∧ w.grownBy w2 (some q)) := (⟨H1.out.1.kept hb2, grownBy_gr H1.out.2 hb2⟩); clear hb2)
      | (go_at_call 39; refine (K2.out _).mono ?_; rintro e w3 ⟨rfl, hb3⟩; have H3 : Hid (Rp w3 q { s with left := o, base := o, wn := n, st := 4 } ∧ w.grownBy w3 (some q)) := (⟨H2.out.1.kept hb3, grownBy_gr H2.out.2 hb3⟩); clear hb3; have c9_3 : w3.cell? ⟨q, 9, none⟩ = some (.int .i64 s.tally) := (H3.out.1.cell 9); have c8_3 : w3.cell? ⟨q, 8, none⟩ = some (.int .i64 s.exp) := (H3.out.1.cell 8); have f9_3 : w3.frozen? ⟨q, 9, none⟩ = false := (H3.out.1.frozen 9)))
    refine wp_region_lastW (by kernel_rfl) (by kernel_rfl) (by rfl) (by kernel_rfl) ?_
    simp only [idleLast, idle]
    repeat (refine qw_step (fun K hK => ?_); go_simp; (refine hK _ ?_; clear hK K))
    refine qw_nil ?_
    intro _ hw'
    obtain ⟨nq, hw''⟩ := hw'
    subst hw''
    refine wpOp_stL (cs := lpL { s with left := o, base := o, wn := n, st := 4 }) _ (by rfl) rfl 3 _ _ rfl H3.out.1 9 (.int .i64 T) (by rfl) (by rfl) rfl (by kernel_rfl) (by simp [lpL]) rfl ?_
    intro W hp hg _
    have h1 : Rp W q { s with left := o, base := o, wn := n, st := 4, tally := T } := hp
    have HW : Hid (Rp W q { s with left := o, base := o, wn := n, st := 4, tally := T } ∧ w.grownBy W (some q)) := ⟨h1, grownBy_trans H3.out.2 (grownBy_trans (grownBy_drewN _ nq _) hg)⟩
    have d8 : W.cell? ⟨q, 8, none⟩ = some (.int .i64 s.exp) := h1.cell 8
    have d9 : W.cell? ⟨q, 9, none⟩ = some (.int .i64 T) := h1.cell 9
    have g8 : W.frozen? ⟨q, 8, none⟩ = false := h1.frozen 8
    have g9 : W.frozen? ⟨q, 9, none⟩ = false := h1.frozen 9
    clear hp hg h1
    by_cases a1 : 30 < T
    · go_wp2_with fail
      rw [hQ.out]
      go_ret2
      rw [HF.out, hb]
      exact ⟨rfl, rwg_end HT.out HW.out.1 HW.out.2 (.inl ⟨a1, by rw [HAB.out.1]⟩)⟩
    by_cases a2 : T < -30
    · go_wp2_with fail
      rw [hQ.out]
      go_ret2
      rw [HF.out, hb]
      exact ⟨rfl, rwg_end HT.out HW.out.1 HW.out.2 (.inr (.inl ⟨a2, by rw [HAB.out.2]⟩))⟩
    · go_wp2_with fail
      rw [hQ.out]
      go_ret2
      rw [HF.out, hb]
      exact ⟨rfl, rwg_end HT.out HW.out.1 HW.out.2 (.inr (.inr ⟨by omega, by omega, rfl⟩))⟩
end Go.Proofs.Ytbagfnafkpbanaa
