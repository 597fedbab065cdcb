/- The reference's Grown and sorted. -/
import Derived.Test.YtgkjgkdlcmmpoaaFN
namespace Go.Proofs.Ytgkjgkdlcmmpoaa
open Go Go.RowKit Fi
set_option maxHeartbeats 400000 in
theorem rcutS_any (a : Int) (w : World) :
    Calls Try.prog 44 #[.int .i64 a] w fun e w' => e = .returned (.int .i64 (Fx.cl 4611686018427387904 a)) ∧ w' = w := by
  go_enter Try.func44, Try.ntmps44
  go_wp2
  all_goals
    go_ret
    exact ⟨ret_int' (by unfold Fx.cl; split at * <;> omega), rfl⟩
set_option maxHeartbeats 400000 in
theorem rsince_any (a b : Int) (w : World) :
    Calls Try.prog 27 #[.int .u64 a, .int .u64 b] w fun e w' => e = .returned (.int .i64 (sn a b)) ∧ w' = w := by
  go_enter Try.func27, Try.ntmps27
  go_wp2_with (go_at_call 44; refine (rcutS_any _ _).mono ?_; rintro e w' ⟨rfl, rfl⟩)
  go_ret
  refine ⟨ret_int' ?_, rfl⟩
  unfold sn
  congr 1
  simp only [IntKind.wrap_u64, wrap64]
  omega
set_option maxHeartbeats 1000000 in
theorem rgrown_any (s : Smp) (now : Int) (w : World) (hs : okS s) :
    Calls Try.prog 22 #[.agg (smL s).toArray, .int .u64 now] w fun e w' => e = .returned (.int .i64 (gr s now)) ∧ Below w.heap.size w w' := by
  have hp := hs.2.2.1
  clear hs
  obtain ⟨so, sd, sp, sa⟩ := s
  obtain ⟨D, hD⟩ : ∃ D, D = sn now sa := ⟨_, rfl⟩
  have bD := sn_bd now sa
  rw [← hD] at bD
  have HS : Hid (∀ u, Calls Try.prog 27 #[.int .u64 now, .int .u64 sa] u fun e w' => e = .returned (.int .i64 D) ∧ w' = u) := fun u => by rw [hD]; exact rsince_any now sa u
  obtain ⟨A, hA⟩ : ∃ A, A = max D 0 := ⟨_, rfl⟩
  have m1 : ∀ u, (Builtin.max_ #[23, 23] 23 #[.int .i64 0, .int .i64 D]).run Try.prog u = .ok (.int .i64 A) u := fun u => by rw [run_mxS, hA]; congr 2; split <;> omega
  have bA : 0 ≤ A ∧ A ≤ 4611686018427387904 := by omega
  obtain ⟨E, hE⟩ : ∃ E, E = dr A := ⟨_, rfl⟩
  have bE := dr_bd A
  rw [← hE] at bE
  have HD : Hid (∀ u, Calls Try.prog 34 #[.int .i64 4222124650, .int .i64 A] u fun e w' => e = .returned (.int .i64 E) ∧ Below u.heap.size u w') := fun u => by rw [hE]; exact rdrift_any _ _ u (by decide) (by decide) (by omega) (by omega)
  obtain ⟨F, hF⟩ : ∃ F, F = Fx.cl 4611686018427387904 (sp + E) := ⟨_, rfl⟩
  have HA : Hid (∀ u, Calls Try.prog 23 #[.int .i64 sp, .int .i64 E] u fun e w' => e = .returned (.int .i64 F) ∧ Below u.heap.size u w') := fun u => by rw [hF]; exact radd_any _ _ u hp.1 hp.2 (by omega) (by omega)
  obtain ⟨G, hG⟩ : ∃ G, G = min F 68719476736 := ⟨_, rfl⟩
  have m2 : ∀ u, (Builtin.min_ #[23, 23] 23 #[.int .i64 68719476736, .int .i64 F]).run Try.prog u = .ok (.int .i64 G) u := fun u => by rw [run_mnS, hG]; congr 2; split <;> omega
  obtain ⟨H, hH⟩ : ∃ H, H = max 0 G := ⟨_, rfl⟩
  have m3 : ∀ u, (Builtin.max_ #[23, 23] 23 #[.int .i64 0, .int .i64 G]).run Try.prog u = .ok (.int .i64 H) u := fun u => by rw [run_mxS, hH]; congr 2; split <;> omega
  have e : gr ⟨so, sd, sp, sa⟩ now = H := by
    show min (max (Fx.cl 4611686018427387904 (sp + dr (max (sn now sa) 0))) 0) 68719476736 = H
    rw [hH, hG, hF, hE, hA, hD]
    omega
  rw [e]
  clear e hH hG hF hE hA hD bD bA bE hp
  unfold smL
  simp only
  go_enter Try.func22, Try.ntmps22
  refine post_hid fun Q hQ => ?_
  refine seq_hid fun R hR => ?_
  go_wp2
  refine world_hid fun W0 hW0 => ?_
  have hB0 : Bk w.heap.size W0 #[.int .i64 so, .int .i64 sd, .int .i64 sp, .int .u64 sa] 27 := by rw [hW0.out]; exact Bk.new _ _ _
  have HB0 : Hid (Below w.heap.size w W0 ∧ w.heap.size < W0.heap.size) := ⟨by rw [hW0.out]; exact (Below.refl _ _).alloc (Nat.le_refl _) _, hB0.lt⟩
  have c2 : W0.cell? ⟨w.heap.size, 2, none⟩ = some (.int .i64 sp) := hB0.cell 2
  have c3 : W0.cell? ⟨w.heap.size, 3, none⟩ = some (.int .u64 sa) := hB0.cell 3
  clear hW0 hB0
  rw [hR.out]
  clear hR
  go_wp2_with (go_at_call 27; refine (HS.out _).mono ?_; rintro e w' ⟨rfl, hw⟩; rw [hw]; clear hw)
  go_region_held3 (fun w' => w'.cell? ⟨w.heap.size, 2, none⟩ = some (.int .i64 sp)) (first | with_reducible exact d2 | with_reducible exact e2 | go_keep) (first
    | (go_at_call 34; refine (HD.out _).mono ?_; rintro e w5 ⟨rfl, hb5⟩; have HB5 : Hid (Below W0.heap.size W0 w5) := (by first | exact hb5 | exact Below.then ((Below.refl _ _).drew) hb5); have d2 := (HB5.out.cell (p := ⟨w.heap.size, 2, none⟩) HB0.out.2).trans c2)
    | (go_at_call 23; refine (HA.out _).mono ?_; rintro e w6 ⟨rfl, hb6⟩; have HB6 : Hid (Below W0.heap.size W0 w6) := (by first | exact Below.then HB5.out hb6 | exact Below.then (HB5.out.drew) hb6); have e2 := (HB6.out.cell (p := ⟨w.heap.size, 2, none⟩) HB0.out.2).trans c2))
  go_wp2_with fail
  rw [hQ.out]
  go_ret
  exact ⟨rfl, HB0.out.1.trans (HB6.out.mono HB0.out.1.size)⟩
end Go.Proofs.Ytgkjgkdlcmmpoaa
