/- Distance of the program. -/
import Derived.Test.YtlggademcmkihaaHDa
namespace Go.Proofs.Ytlggademcmkihaa
open Go Go.RowKit
set_option maxRecDepth 20000 in
set_option maxHeartbeats 1000000 in
theorem distance_any (t : Td) (b : Be) (now : Int) (w : World) (ht : okT t) (hb : okB' b) : Calls Try.prog 24 #[.agg (tdL t).toArray, .agg (beL b).toArray, .int .u64 now] w fun e w' => e = .returned (.int .i64 (dsI t b now)) ∧ Below w.heap.size w w' := by
  obtain ⟨A, hA⟩ : ∃ A, Fx.cl 4611686018427387904 (t.del + b.d) = A := ⟨_, rfl⟩
  obtain ⟨M, hM⟩ : ∃ M, max A 16777216 = M := ⟨_, rfl⟩
  obtain ⟨D0, h0⟩ : ∃ D0, ds0 t b = D0 := ⟨_, rfl⟩
  obtain ⟨D1, h1⟩ : ∃ D1, ds1 t b = D1 := ⟨_, rfl⟩
  obtain ⟨D2, h2⟩ : ∃ D2, ds2 t b = D2 := ⟨_, rfl⟩
  obtain ⟨D3, h3⟩ : ∃ D3, ds3 t b = D3 := ⟨_, rfl⟩
  obtain ⟨E, hE⟩ : ∃ E, wr b.a now = E := ⟨_, rfl⟩
  obtain ⟨D4, h4⟩ : ∃ D4, dsI t b now = D4 := ⟨_, rfl⟩
  have b0 := ds0_bd t b
  rw [h0] at b0
  have b1 : -4611686018427387904 ≤ D1 ∧ D1 ≤ 4611686018427387904 := by rw [← h1]; exact cl62 _
  have b2 : -4611686018427387904 ≤ D2 ∧ D2 ≤ 4611686018427387904 := by rw [← h2]; exact cl62 _
  have b3 : -4611686018427387904 ≤ D3 ∧ D3 ≤ 4611686018427387904 := by rw [← h3]; exact cl62 _
  have bE : -4611686018427387904 ≤ E ∧ E ≤ 4611686018427387904 := by rw [← hE]; exact dr_bd _
  have c1 : Hid (∀ u, Calls Try.prog 46 #[.int .i64 t.del, .int .i64 b.d] u fun e w' => e = .returned (.int .i64 A) ∧ w' = u) := fun u => by rw [← hA]; exact add_any _ _ u ht.del.1 ht.del.2 hb.d.1 hb.d.2
  have c2 : Hid (∀ u, Calls Try.prog 47 #[.int .i64 M, .int .i64 (-1)] u fun e w' => e = .returned (.int .i64 D0) ∧ w' = u) := fun u => by
    have : Fx.sh M (-1) = D0 := by rw [← h0, ← hM, ← hA]; rfl
    rw [← this]
    exact shift_any M (-1) u (by decide) (by decide)
  have c3 : Hid (∀ u, Calls Try.prog 46 #[.int .i64 D0, .int .i64 t.dis] u fun e w' => e = .returned (.int .i64 D1) ∧ w' = u) := fun u => by rw [← h1]; unfold ds1; rw [h0]; exact add_any _ _ u (by omega) (by omega) ht.dis.1 ht.dis.2
  have c4 : Hid (∀ u, Calls Try.prog 46 #[.int .i64 D1, .int .i64 b.p] u fun e w' => e = .returned (.int .i64 D2) ∧ w' = u) := fun u => by rw [← h2]; unfold ds2; rw [h1]; exact add_any _ _ u (by omega) (by omega) hb.p.1 hb.p.2
  have c5 : Hid (∀ u, Calls Try.prog 46 #[.int .i64 D2, .int .i64 b.j] u fun e w' => e = .returned (.int .i64 D3) ∧ w' = u) := fun u => by rw [← h3]; unfold ds3; rw [h2]; exact add_any _ _ u (by omega) (by omega) hb.j.1 hb.j.2
  have c7 : Hid (∀ u, Calls Try.prog 49 #[.int .u64 b.a, .int .u64 now] u fun e w' => e = .returned (.int .i64 E) ∧ ∃ n, w' = u.drewN n) := fun u => by rw [← hE]; exact worn_any _ _ u
  have c8 : Hid (∀ u, Calls Try.prog 46 #[.int .i64 D3, .int .i64 E] u fun e w' => e = .returned (.int .i64 D4) ∧ w' = u) := fun u => by rw [← h4]; unfold dsI; rw [h3, hE]; exact add_any _ _ u (by omega) (by omega) (by omega) (by omega)
  have m1 : ∀ u, (Builtin.max_ #[25, 25] 25 #[.int .i64 A, .int .i64 16777216]).run Try.prog u = .ok (.int .i64 M) u := fun u => by rw [run_mxS, hM]
  rw [h4]
  clear hA hM h0 h1 h2 h3 hE h4 b0 b1 b2 b3 bE ht hb
  go_enter Try.func24, Try.ntmps24
  refine post_hid fun Q hQ => ?_
  refine seq_hid fun R hR => ?_
  go_wp2
  refine world_hid fun W hW => ?_
  have HA : Hid (VT w W t b 60) := by show VT _ _ _ _ _; rw [hW.out]; exact VT.new _ _ _ _
  clear hW
  rw [hR.out]
  clear hR
  refine seq_hid fun R hR => ?_
  have k1 := HA.out.del
  have k2 := HA.out.bd
  go_wp2_with (go_at_call 46; refine (c1.out _).mono ?_; rintro e wq ⟨rfl, hwq⟩; rw [hwq]; clear hwq)
  rw [hR.out]
  clear hR k1 k2 c1 m1
  refine seq_hid fun R hR => ?_
  go_wp2_with (go_at_call 47; refine (c2.out _).mono ?_; rintro e wq ⟨rfl, hwq⟩; rw [hwq]; clear hwq)
  rw [hR.out]
  clear hR c2
  have k1 := HA.out.dis
  have k2 := HA.out.bp
  have k3 := HA.out.bj
  have k4 := HA.out.ba
  go_wp2_with fail
  go_quiet ((go_at_call 49; exact Calls.quiet_of (c7.out _)))
  have HA : Hid (VT w (W.drewN nq) t b 60) := ⟨below_dr HA.out.below nq, HA.out.td, HA.out.be⟩
  generalize W.drewN nq = W2 at HA ⊢
  clear k1 k2 k3 k4 c7
  go_wp2
  have x0 : ∀ u, Sem.run Try.prog (Instr.index 98 (.agg #[.int .i64 t.dis, .int .i64 b.p, .int .i64 b.j, .int .i64 E]) (.int .i64 0)) u = .ok (.int .i64 t.dis) u := fun u => by kernel_rfl
  have x1 : ∀ u, Sem.run Try.prog (Instr.index 98 (.agg #[.int .i64 t.dis, .int .i64 b.p, .int .i64 b.j, .int .i64 E]) (.int .i64 1)) u = .ok (.int .i64 b.p) u := fun u => by kernel_rfl
  have x2 : ∀ u, Sem.run Try.prog (Instr.index 98 (.agg #[.int .i64 t.dis, .int .i64 b.p, .int .i64 b.j, .int .i64 E]) (.int .i64 2)) u = .ok (.int .i64 b.j) u := fun u => by kernel_rfl
  have x3 : ∀ u, Sem.run Try.prog (Instr.index 98 (.agg #[.int .i64 t.dis, .int .i64 b.p, .int .i64 b.j, .int .i64 E]) (.int .i64 3)) u = .ok (.int .i64 E) u := fun u => by kernel_rfl
  refine wp_loop_rounds 5 ?_
  rw [rounds_succ]
  go_wp2_with (go_at_call 46; refine (c3.out _).mono ?_; rintro e wq ⟨rfl, hwq⟩; rw [hwq]; clear hwq)
  rw [rounds_succ]
  go_wp2_with (go_at_call 46; refine (c4.out _).mono ?_; rintro e wq ⟨rfl, hwq⟩; rw [hwq]; clear hwq)
  rw [rounds_succ]
  go_wp2_with (go_at_call 46; refine (c5.out _).mono ?_; rintro e wq ⟨rfl, hwq⟩; rw [hwq]; clear hwq)
  rw [rounds_succ]
  go_wp2_with (go_at_call 46; refine (c8.out _).mono ?_; rintro e wq ⟨rfl, hwq⟩; rw [hwq]; clear hwq)
  rw [rounds_succ]
  go_wp2
  rw [hQ.out]
  go_ret
  exact ⟨rfl, HA.out.below⟩
end Go.Proofs.Ytlggademcmkihaa
