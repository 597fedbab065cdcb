/- The reference: New. -/
import Derived.Test.YtocaiimhbmhakaaJE
namespace Go.Proofs.Ytocaiimhbmhakaa
open Go Go.RowKit Go.Sort
set_option maxHeartbeats 1000000 in
theorem rnew_ok (a : As) (now draw : Int) (w : World) (ha : okA a) : Calls Try.prog 10 #[.agg (asL a).toArray, .int .i64 now, .int .i64 draw] w fun e w' => ∃ q, e = .returned (.tuple #[.pointer (some ⟨q, 0, none⟩), .int .i64 0]) ∧ Rp w' q a (newS a now draw) ∧ w.heap.size ≤ q ∧ Below w.heap.size w w' := by
  obtain ⟨h1, h2, h3⟩ := ha
  have mx := run_mx
  have b := pw_bd a.minp (by omega)
  obtain ⟨M, hM⟩ : ∃ M, pw a.minp = M := ⟨_, rfl⟩
  rw [hM] at b
  have m0 : ¬ M = 0 := by omega
  have bt : 0 ≤ max draw 0 % M ∧ max draw 0 % M < M := ⟨Int.emod_nonneg _ (by omega), Int.emod_lt_of_pos _ (by omega)⟩
  have bc := ck_bd now
  obtain ⟨T, hT⟩ : ∃ T, max draw 0 % M = T := ⟨_, rfl⟩
  have tm : (max 0 draw).tmod M = T := by rw [← hT, Int.max_comm]; exact Int.tmod_eq_emod_of_nonneg (by omega)
  obtain ⟨C, hC⟩ : ∃ C, ck now = C := ⟨_, rfl⟩
  rw [hC] at bc
  obtain ⟨N, hN⟩ : ∃ N, C + T = N := ⟨_, rfl⟩
  have kS : wrap64 (C + T) = N := by rw [← hN]; exact w64 _ (by omega) (by omega)
  have kS' : IntKind.i64.wrap (C + T) = N := by rw [IntWalk.i64_left]; exact kS
  have HN : Hid (ck now + max draw 0 % pw a.minp = N) := by show _ = _; rw [hC, hM, hT, hN]
  have HPw : Hid (∀ u, Calls Try.prog 23 #[.int .i64 a.minp] u fun e w' => e = .returned (.int .i64 M) ∧ w' = u) := fun u => by rw [← hM]; exact power_any _ u (by omega) (by omega)
  have HCk : Hid (∀ u, Calls Try.prog 22 #[.int .i64 now] u fun e w' => e = .returned (.int .i64 C) ∧ w' = u) := fun u => by rw [← hC]; exact clock_any now u
  clear hM hT hN bt bc b hC
  unfold newS
  rw [HN.out]
  go_enter Try.func10, Try.ntmps10
  refine post_hid fun Q hQ => ?_
  refine seq_hid fun R hR => ?_
  unfold asL
  go_wp2
  refine world_hid fun W hW => ?_
  have hK : Bk w.heap.size W (asL a).toArray 25 := by rw [hW.out]; exact Bk.new _ _ _
  have c0 : W.cell? ⟨w.heap.size, 0, none⟩ = some (.int .i64 a.kind) := hK.cell 0
  have c1 : W.cell? ⟨w.heap.size, 1, none⟩ = some (.int .u32 a.addr) := hK.cell 1
  have c2 : W.cell? ⟨w.heap.size, 2, none⟩ = some (.int .i64 a.key) := hK.cell 2
  have c3 : W.cell? ⟨w.heap.size, 3, none⟩ = some (.int .i64 a.minp) := hK.cell 3
  have c4 : W.cell? ⟨w.heap.size, 4, none⟩ = some (.int .i64 a.maxp) := hK.cell 4
  have c5 : W.cell? ⟨w.heap.size, 5, none⟩ = some (.bool a.burst) := hK.cell 5
  have c6 : W.cell? ⟨w.heap.size, 6, none⟩ = some (.bool a.ib) := hK.cell 6
  have c7 : W.cell? ⟨w.heap.size, 7, none⟩ = some (.bool a.pref) := hK.cell 7
  have c8 : W.cell? ⟨w.heap.size, 8, none⟩ = some (.int .i64 a.ttl) := hK.cell 8
  have c9 : W.cell? ⟨w.heap.size, 9, none⟩ = some (.bool a.pulse) := hK.cell 9
  have c10 : W.cell? ⟨w.heap.size, 10, none⟩ = some (.int .i64 a.fudge) := hK.cell 10
  have c11 : W.cell? ⟨w.heap.size, 11, none⟩ = some (.int .i64 a.str) := hK.cell 11
  have HB : Hid (Below w.heap.size w W ∧ w.heap.size < W.heap.size) := ⟨by rw [hW.out]; exact (Below.refl _ _).alloc (Nat.le_refl _) _, hK.lt⟩
  have HK : Hid (Bk w.heap.size W (asL a).toArray 25) := hK
  clear hW hK
  rw [hR.out]
  clear hR
  go_wp2
  go_region_held3 (fun w' => w'.cell? ⟨w.heap.size, 0, none⟩ = some (.int .i64 a.kind) ∧ w'.cell? ⟨w.heap.size, 1, none⟩ = some (.int .u32 a.addr) ∧ w'.cell? ⟨w.heap.size, 2, none⟩ = some (.int .i64 a.key) ∧ w'.cell? ⟨w.heap.size, 3, none⟩ = some (.int .i64 a.minp) ∧ w'.cell? ⟨w.heap.size, 4, none⟩ = some (.int .i64 a.maxp) ∧ w'.cell? ⟨w.heap.size, 5, none⟩ = some (.bool a.burst) ∧ w'.cell? ⟨w.heap.size, 6, none⟩ = some (.bool a.ib) ∧ w'.cell? ⟨w.heap.size, 7, none⟩ = some (.bool a.pref) ∧ w'.cell? ⟨w.heap.size, 8, none⟩ = some (.int .i64 a.ttl) ∧ w'.cell? ⟨w.heap.size, 9, none⟩ = some (.bool a.pulse) ∧ w'.cell? ⟨w.heap.size, 10, none⟩ = some (.int .i64 a.fudge) ∧ w'.cell? ⟨w.heap.size, 11, none⟩ = some (.int .i64 a.str)) (first | exact ⟨c0, c1, c2, c3, c4, c5, c6, c7, c8, c9, c10, c11⟩ | go_keep) (first | (go_at_call 22; refine (HCk.out _).mono ?_; rintro e w' ⟨rfl, rfl⟩) | (go_at_call 23; refine (HPw.out _).mono ?_; rintro e w' ⟨rfl, rfl⟩))
  all_goals
    go_wp2
    rw [hQ.out]
    go_ret2
    refine ⟨_, rfl, ?_, Nat.le_of_lt HB.out.2, ?_⟩
    · exact Bk.new W _ _
    · exact HB.out.1.trans ((((Below.refl _ _).alloc (Nat.le_refl _) _).drew).mono HB.out.1.size)
set_option maxHeartbeats 1000000 in
theorem rnew_bad (a : As) (now draw : Int) (w : World) (ha : ¬ okA a) : Calls Try.prog 10 #[.agg (asL a).toArray, .int .i64 now, .int .i64 draw] w fun e w' => e = .returned (.tuple #[.pointer none, .int .i64 1]) ∧ Below w.heap.size w w' := by
  have hb : (decide (a.minp < 3) || decide (10 < a.maxp) || decide (a.maxp < a.minp)) = true := by
    unfold okA at ha
    simp only [Bool.or_eq_true, decide_eq_true_eq]
    omega
  unfold asL
  go_enter Try.func10, Try.ntmps10
  refine post_hid fun Q hQ => ?_
  refine seq_hid fun R hR => ?_
  go_wp2
  refine world_hid fun W hW => ?_
  have hK : Bk w.heap.size W (asL a).toArray 25 := by rw [hW.out]; exact Bk.new _ _ _
  have c3 : W.cell? ⟨w.heap.size, 3, none⟩ = some (.int .i64 a.minp) := hK.cell 3
  have c4 : W.cell? ⟨w.heap.size, 4, none⟩ = some (.int .i64 a.maxp) := hK.cell 4
  have HB : Hid (Below w.heap.size w W) := by rw [hW.out]; exact (Below.refl _ _).alloc (Nat.le_refl _) _
  clear hW hK
  rw [hR.out]
  clear hR
  have Hb : Hid (¬ okA a) := ha
  clear ha
  go_wp2
  all_goals first
    | (exfalso; exact Hb.out (by unfold okA; omega))
    | (rw [hQ.out]
       go_ret2
       exact ⟨rfl, HB.out⟩)
end Go.Proofs.Ytocaiimhbmhakaa
